import Derived.Test.YtfnndcbjklppeaaGreatDoorUF2
import Derived.Laws.AppendOwn
import Derived.Test.YtfnndcbjklppeaaGreatDoorUY2
import Derived.Test.YtfnndcbjklppeaaGreatDoorUQ2
import Derived.Test.YtfnndcbjklppeaaGreatDoorUB2
import Derived.Test.YtfnndcbjklppeaaGreatDoorUI2
import Derived.Maps.AppendAt
import Derived.Deep.RegionLaw
set_option maxHeartbeats 4000000
set_option maxRecDepth 100000
set_option linter.unusedVariables false
open Go.Proofs.Tryz
namespace Go.Proofs.YtfnndcbjklppeaaGreatDoor.Mk
open Go.RowKit
def encR(x:Int×Int):List Value:=[.int .i64 x.1,.int .i64 x.2]
def cells2(L:List (Int×Int)):List Value:=L.flatMap encR
theorem cells2_len(ps:List (Int×Int)):(cells2 ps).length=ps.length*2:=by
 induction ps with
 |nil=>rfl
 |cons x xs ih=>simp[cells2,encR]at ih ⊢;omega
theorem cells2_get(ps:List (Int×Int))(k:Nat)(h:k<ps.length):(cells2 ps)[k*2]? =some (.int .i64 ps[k].1)∧(cells2 ps)[k*2+1]? =some (.int .i64 ps[k].2):=by
 induction ps generalizing k with
 |nil=>simp at h
 |cons x xs ih=>
  have e:cells2 (x::xs)=.int .i64 x.1:: .int .i64 x.2::cells2 xs:=rfl
  match k with
  |0=>rw[e];simp
  |k+1=>
   have:=ih k (by simpa using h)
   rw[e,show(k+1)*2=k*2+1+1 from by omega]
   simpa using this
theorem infoR:(Tryz.prog.info? 101).map (fun i=>(i.zero,i.size,i.bytes))=some (some (.agg #[.int .i64 0,.int .i64 0]),2,16):=by kernel_rfl
theorem cells_of{w:World}{x:Addr}{L:RL}(h:Cells2 w x L):∀j u,(cells2 L)[j]? =some u→w.cell? (x.add j)=some u:=by
 intro j u hj
 have hlt:j<(cells2 L).length:=(List.getElem?_eq_some_iff.1 hj).1
 rw[cells2_len]at hlt
 obtain⟨c1,c2⟩:=h (j / 2) (by omega)
 obtain⟨d1,d2⟩:=cells2_get L (j / 2) (by omega)
 rcases(show j % 2=0∨j % 2=1 from by omega)with hm|hm
 ·have e:j / 2*2=j:=by omega
  rw[e]at c1 d1
  rw[hj]at d1
  rw[c1, ←d1]
 ·have e:j / 2*2+1=j:=by omega
  rw[e,hj]at d2
  have e2:x.add j=⟨(x.add (j / 2*2)).block,(x.add (j / 2*2)).off+1,none⟩:=by
   unfold Addr.add
   rw[if_neg (by omega)]
   split
   ·rename_i h0;first|(simp;omega)|simp_all
   ·first|(simp;omega)|simp
  rw[e2,c2, ←d2]
theorem cells2_one(L:RL):∀u∈cells2 L,u.oneCell'=true:=by
 intro u hu
 unfold cells2 at hu
 rw[List.mem_flatMap]at hu
 obtain⟨r,_,hu⟩:=hu
 simp[encR]at hu
 rcases hu with rfl|rfl<;>rfl
theorem own_empty(w:World):(w.alloc (.cells #[] 101)).ownsRow w.heap.size 101 2 (.slice (some ⟨w.heap.size,0,none⟩) 0 0) 0 []:=by
 have h:=World.ownsRow_lit (base:=w.heap.size) (e:=101) (size:=2) w #[] 0 (by simp) (by unfold maxLen;omega) (by simp)
 simpa using h
theorem clone_any(v:Value)(L:RL)(w:World)(hv:Reads w v L)(hl:L.length≤3000):Calls prog 65 #[v] w fun e w'=>∃v',e=.returned v'∧w'.ownsRow w.heap.size 101 2 v' L.length (cells2 L)∧Below w.heap.size w w':=by
 obtain⟨i0,hi,hz0,hz1,hz2⟩:=info_parts infoR
 have nil0:∀W,(binOp .eql 29 (.slice none 0 0) (.slice none 0 0)).run prog W=.ok (.bool true) W:=fun W=>rfl
 have nil1:∀a n c W,(binOp .eql 29 (.slice (some a) n c) (.slice none 0 0)).run prog W=.ok (.bool false) W:=fun a n c W=>rfl
 rcases hv with⟨rfl,rfl⟩|⟨x,c,rfl,hc⟩
 ·go_enter func65,ntmps65
  go_wp2
  go_ret
  exact⟨_,rfl,World.ownsRow_nil _ _ _ _,belR _ _⟩
 ·have HC:=hide hc
  clear hc
  obtain⟨n,hn⟩:=named L.length
  have hcl:=cells2_len L
  rw[← hn]at hl hcl ⊢
  have HCL:=hide hcl
  clear hn hcl
  have hb0:Hid (Below w.heap.size w (w.alloc (.cells #[] 101))):=allocB w _
  go_enter func65,ntmps65
  go_wp2_with (at_builtin;refine wpList_append_own _ rfl _ _ 29 rfl w.heap.size 101 i0 (.agg #[.int .i64 0,.int .i64 0]) 2 16 underlying29 hi hz0 hz1 hz2 rfl (by decide) _ 0 [] rfl (own_empty w) x n c (cells2 L) rfl HCL.out (cells_of (HC.out.below hb0.out)) (cells2_one L) (by unfold maxLen;omega) (by omega) (by simp) ?_)
  intro v' w3 hown' hgrow _
  have HO3:=hide hown'
  have hb3:=hide (hb0.out.grown hgrow (by simp) (fun k hk=>by simp[Value.ownBlock]at hk;omega))
  clear hown' hgrow
  go_wp2
  go_ret
  exact⟨_,rfl,HO3.out,hb3.out⟩
theorem own_reads{B:Nat}{w:World}{v:Value}{L:RL}(h:w.ownsRow B 101 2 v L.length (cells2 L)):Reads w v L:=by
 rcases h.2 with⟨rfl,h0⟩|⟨g,cap,cur,rfl,h3⟩
 ·exact .inl ⟨rfl,List.eq_nil_of_length_eq_zero h0⟩
 ·refine .inr ⟨⟨g,0,none⟩,cap,rfl,fun j hj=>?_⟩
  obtain⟨h1,h2⟩:=cells2_get L j hj
  have e1:((⟨g,0,none⟩:Addr).add (j*2))=⟨g,j*2,none⟩:=by unfold Addr.add;split<;>simp_all
  rw[e1]
  simp only
  rw[h.cellAt (j*2) (by omega),h.cellAt (j*2+1) (by omega)]
  exact⟨h1,h2⟩
theorem own_below{B e:Nat}{w w':World}{v:Value}{n k:Nat}{xs:List Value}(h:w.ownsRow B e k v n xs)(hb:Below w.heap.size w w'):w'.ownsRow B e k v n xs:=by
 refine⟨h.1,?_⟩
 rcases h.2 with h2|⟨g,cap,cur,rfl,h3,hg,h4⟩
 ·exact Or.inl h2
 ·exact Or.inr ⟨g,cap,cur,rfl,h3,by rw[hb.block g (Array.getElem?_eq_some_iff.1 hg).1];exact hg,h4⟩
theorem own_ge{w:World}{B e g n k cap:Nat}{xs:List Value}(h:w.ownsRow B e k (.slice (some ⟨g,0,none⟩) n cap) n xs):B≤g:=by
 rcases h.2 with⟨h0,_⟩|⟨g',cap',cur,hv,hB,hr⟩
 ·cases h0
 ·cases hv;exact hB
theorem wpList_run{P:Program}{ops:Array Oper}{rest:List Oper}{o:Oper}{a:Act}{w:World}{Q:Exit→Act→World→Prop}(hgd:o.guard=none)(s x:Operand)(t:TypeId)
  (ho:o.op=.call { callee:=.builtin .append,args:=#[s,x],argTypes:=#[t,t] }) (v v2 v':Value) (w':World) (hs:a.eval s=v) (hx:a.eval x=v2) (hr:(Builtin.append_ #[t,t] o.type #[v,v2]).run P w=.ok v' w') (h:wpList P ops Q rest (a.put o.dst v') w'):wpList P ops Q (o::rest) a w:=
 wpList_plain hgd fun _ hK=>by
  unfold Oper.wp execOp
  simp only[ho,resolve,invoke,builtin,Sem.run_bind,Sem.run_pure,Result.andThen_ok,List.map_toArray,List.map_cons,List.map_nil,hs,hx,hr]
  exact hK _ _ h
structure Step(g:Nat)(w w':World):Prop where
 os:w'.os=w.os
 tape:w'.tape=w.tape
 output:w'.output=w.output
 size:w.heap.size≤w'.heap.size
 low:∀k,k<g→w'.heap[k]? =w.heap[k]?
 oth:∀k,g<k→k<w.heap.size→∀cs e fr,w.heap[k]? =some (.cells cs e fr)→e≠52→e≠3→w'.heap[k]? =some (.cells cs e fr)
theorem Step.refl(g:Nat)(w:World):Step g w w:=⟨rfl,rfl,rfl,leR _,fun _ _=>rfl,fun _ _ _ _ _ _ h _ _=>h⟩
theorem Step.trans{g:Nat}{w w1 w2:World}(h:Step g w w1)(k:Step g w1 w2):Step g w w2:=
 ⟨k.os.trans h.os,k.tape.trans h.tape,k.output.trans h.output,Nat.le_trans h.size k.size,fun i hi=>(k.low i hi).trans (h.low i hi),fun i h1 h2 cs e fr hc e1 e2=>k.oth i h1 (Nat.lt_of_lt_of_le h2 h.size) cs e fr (h.oth i h1 h2 cs e fr hc e1 e2) e1 e2⟩
theorem Step.of_below{g:Nat}{w w':World}(h:Below w.heap.size w w')(hg:g<w.heap.size):Step g w w':=
 ⟨h.os,h.tape,h.output,h.size,fun k hk=>h.block k (by omega),fun k h1 h2 cs e fr hc _ _=>by rw[h.block k h2];exact hc⟩
theorem Step.below{g:Nat}{w w':World}(h:Step g w w'):Below g w w':=⟨h.os,h.tape,h.output,h.size,h.low⟩
theorem Step.blk{g k:Nat}{w w':World}{cs:Array Value}{e:TypeId}{fr:Nat×Nat}(h:Step g w w')(hk:g<k)(hc:w.heap[k]? =some (.cells cs e fr))(e1:e≠52)(e2:e≠3):w'.heap[k]? =some (.cells cs e fr):=
 h.oth k hk (lt_of_block hc) cs e fr hc e1 e2
theorem Step.set{g:Nat}{w:World}(o:Nat)(v:Value):Step g w (w.setCell ⟨g,o,none⟩ v):=
 ⟨rfl,rfl,rfl,by simp[World.setCell],fun k hk=>by rw[Below.heap_setCell _ _ _ _ (by show k≠g;omega)],fun k h1 h2 cs e fr hc _ _=>by rw[Below.heap_setCell _ _ _ _ (by show k≠g;omega)];exact hc⟩
def opL(o:OpV):List Value:=[.int .i64 o.dn,.slice o.sa o.sl o.sc,.int .i64 o.to,.int .i64 o.other,.int .i64 o.kind,.int .i64 o.least,.bool o.fold,.bool o.back]
theorem opL_one(o:OpV):∀v∈opL o,v.oneCell'=true:=by
 intro v hv
 simp only[opL,List.mem_cons,List.not_mem_nil,or_false]at hv
 rcases hv with rfl|rfl|rfl|rfl|rfl|rfl|rfl|rfl<;>rfl
def rowO(L:OpL):List Value:=L.flatMap fun x=>opL x.1
theorem rowO_app(a b:OpL):rowO (a++b)=rowO a++rowO b:=by simp[rowO]
theorem rowO_len:∀L:OpL,(rowO L).length=L.length*8
 |[]=>rfl
 |x::xs=>by
  have:=rowO_len xs
  rw[rowO]at this
  rw[rowO,List.flatMap_cons,List.length_append,this,List.length_cons]
  simp[opL];omega
theorem rowO_get:∀(L:OpL) (j:Nat) (hj:j<L.length) (i:Nat),i<8→(rowO L)[j*8+i]? =(opL L[j].1)[i]?
 |x::xs,0,hj,i,hi=>by
  rw[rowO,List.flatMap_cons,List.getElem?_append_left (by simp[opL];omega)]
  simp
 |x::xs,j+1,hj,i,hi=>by
  rw[rowO,List.flatMap_cons,List.getElem?_append_right (by simp[opL];omega)]
  have:=rowO_get xs j (by simpa using hj) i hi
  rw[rowO]at this
  rw[show (j+1)*8+i - (opL x.1).length=j*8+i from by simp[opL];omega,this]
  rfl
def stripO(x:OpV×RL):PO:=⟨x.1.dn,x.2,x.1.to,x.1.other,x.1.kind,x.1.least,x.1.fold,x.1.back⟩
def labV(l:List Nat):List Value:=l.map fun (n:Nat)=>Value.int .i64 (n:Int)
abbrev mkO(ov:Value)(g:Int)(c:Nat)(lv:Value):Obj:=.cells #[ov,.int .i64 g,.int .i64 (c:Int),lv] 105
def SetK(w:World)(mb:Nat)(x:OpV×RL):Prop:=w.ownsRow (mb+1) 101 2 (.slice x.1.sa x.1.sl x.1.sc) x.2.length (cells2 x.2)
structure MV(w:World)(mb:Nat)(g:Int)(s:MS)(ov lv:Value)(L:OpL):Prop where
 box:w.heap[mb]? =some (mkO ov g s.cnt lv)
 ops:w.ownsRow (mb+1) 52 8 ov s.ops.length (rowO L)
 lab:w.ownsRow (mb+1) 3 1 lv s.lab.length (labV s.lab)
 str:L.map stripO=s.ops
 set:∀x∈L,SetK w mb x
def MB(w:World)(mb:Nat)(g:Int)(s:MS):Prop:=∃ov lv L,MV w mb g s ov lv L
variable {w w' : World} {mb : Nat} {g : Int} {s s' : MS} {ov lv : Value} {L : OpL}
theorem MV.lt(h:MV w mb g s ov lv L):mb<w.heap.size:=lt_of_block h.box
theorem MB.lt(h:MB w mb g s):mb<w.heap.size:=by obtain⟨_,_,_,h⟩:=h;exact h.lt
theorem own_oth{B e k n:Nat}{u:Value}{xs:List Value}(ho:w.ownsRow B e k u n xs)(hk:∀b,B≤b→b<w.heap.size→∀cs,w.heap[b]? =some (.cells cs e (0,0))→w'.heap[b]? =some (.cells cs e (0,0))):w'.ownsRow B e k u n xs:=by
 refine⟨ho.1,?_⟩
 rcases ho.2 with h|⟨b,cap,cur,rfl,h3,hb,h4⟩
 ·exact .inl h
 ·exact .inr ⟨b,cap,cur,rfl,h3,hk b h3 (lt_of_block hb) cur hb,h4⟩
theorem SetK.step{x:OpV×RL}(h:SetK w mb x)(k:Step mb w w'):SetK w' mb x:=
 own_oth h fun b h1 h2 cs hc=>k.oth b (by omega) h2 cs _ _ hc (by decide) (by decide)
theorem MV.keep(h:MV w mb g s ov lv L)(hb:Below w.heap.size w w'):MV w' mb g s ov lv L:=
 ⟨below_at hb h.box,own_below h.ops hb,own_below h.lab hb,h.str,fun x hx=>own_below (h.set x hx) hb⟩
theorem MB.keep(h:MB w mb g s)(hb:Below w.heap.size w w'):MB w' mb g s:=by obtain⟨a,b,c,h⟩:=h;exact⟨a,b,c,h.keep hb⟩
theorem MV.alloc(h:MV w mb g s ov lv L)(o:Obj):MV (w.alloc o) mb g s ov lv L:=h.keep ((belR _ w).alloc (leR _) o)
theorem drew1(w:World):Below w.heap.size w w.drew:=⟨rfl,rfl,rfl,leR _,fun _ _=>rfl⟩
theorem MV.drew(h:MV w mb g s ov lv L):MV w.drew mb g s ov lv L:=h.keep (drew1 w)
theorem MV.rd(h:MV w mb g s ov lv L):w.cell? ⟨mb,0,none⟩=some ov∧w.cell? ⟨mb,1,none⟩=some (.int .i64 g)∧w.cell? ⟨mb,2,none⟩=some (.int .i64 (s.cnt:Int))∧w.cell? ⟨mb,3,none⟩=some lv:=by
 refine⟨?_,?_,?_,?_⟩<;>simp[World.cell?,h.box]
theorem MV.fr(h:MV w mb g s ov lv L)(i:Nat):w.frozen? ⟨mb,i,none⟩=false:=by simp[World.frozen?,h.box]
def MkE(mb:Nat)(g:Int)(s':MS)(w:World)(e:Ending)(w':World):Prop:=e=.returned (.tuple #[])∧MB w' mb g s'∧Step mb w w'
theorem grow_keep{W W1:World}{B e1 e2 k1 k2 n1 n2:Nat}{v1 v2:Value}{xs1 xs2:List Value}(h1:W.ownsRow B e1 k1 v1 n1 xs1)(h2:W.ownsRow B e2 k2 v2 n2 xs2)(he:e1≠e2)(hg:W.grownBy W1 v1.ownBlock):W1.ownsRow B e2 k2 v2 n2 xs2:=by
 refine own_oth h2 fun b hB hlt cs hb=>?_
 rw[hg.block b hlt ?_]
 ·exact hb
 ·intro hx
  rcases h1.2 with⟨rfl,_⟩|⟨b',cap',cur',rfl,_,hb',_⟩
  ·cases hx
  ·have :b=b':=Option.some.inj hx
   subst this
   rw[hb']at hb
   cases hb
   exact he rfl
theorem own_set'{W:World}{B e k n m:Nat}{u:Value}{xs:List Value}(h:W.ownsRow B e k u n xs){i:Nat}{x:Value}(hg:m<B):(W.setCell ⟨m,i,none⟩ x).ownsRow B e k u n xs:=
 own_oth h fun b hB _ cs hb=>by rw[Below.heap_setCell _ _ _ _ (by show b≠m;omega)];exact hb
theorem step_grow{W W1:World}{e k n:Nat}{u:Value}{xs:List Value}(hlt:mb<W.heap.size)(ho:W.ownsRow (mb+1) e k u n xs)(he:e=52∨e=3)(hg:W.grownBy W1 u.ownBlock):Step mb W W1:=by
 refine⟨hg.os,hg.tape,hg.output,hg.size,fun k hk=>?_,fun k h1 h2 cs e' fr hc n1 n2=>?_⟩
 ·exact hg.block k (by omega) (fun hx=>by have:=(ho.lt k hx.symm).1;omega)
 ·rw [hg.block k h2 ?_]
  ·exact hc
  ·intro hx
   rcases ho.2 with⟨rfl,_⟩|⟨b',cap',cur',rfl,_,hb',_⟩
   ·cases hx
   ·have :k=b':=Option.some.inj hx
    subst this
    rw[hb']at hc
    cases hc
    rcases he with rfl|rfl
    ·exact n1 rfl
    ·exact n2 rfl
theorem infoOp:(Tryz.prog.info? 52).map (fun i=>(i.zero,i.size,i.bytes))=some (some (.agg #[.int .i64 0,.slice none 0 0,.int .i64 0,.int .i64 0,.int .i64 0,.int .i64 0,.bool false,.bool false]),8,72):=by kernel_rfl
theorem MV.appO(h:MV w mb g s ov lv L)(x:OpV×RL)(hx:SetK w mb x)(hl:s.ops.length≤20000):∃so sc w',(Builtin.append_ #[22,22] 22 #[ov,.slice (some ⟨w.heap.size,0,none⟩) 1 1]).run prog (w.alloc (opO x.1))=.ok (.slice so (s.ops.length+1) sc) w'∧w'.heap[mb]? =w.heap[mb]? ∧MB (w'.setCell ⟨mb,0,none⟩ (.slice so (s.ops.length+1) sc)) mb g (s.add (stripO x))∧Step mb w (w'.setCell ⟨mb,0,none⟩ (.slice so (s.ops.length+1) sc)):=by
 obtain⟨i0,hi,hz0,hz1,hz2⟩:=info_parts infoOp
 have hw:=h.alloc (opO x.1)
 obtain⟨v',w',hr,ho,hg,_,hat⟩:=run_append_own_at (P:=prog) (w.alloc (opO x.1)) (mb+1) 22 22 52 i0 _ 8 72 underlying22 hi hz0 hz1 hz2 rfl (by decide) ov s.ops.length (rowO L) hw.ops ⟨w.heap.size,0,none⟩ 1 1 (opL x.1) rfl (World.news_of_block (cs:=(opL x.1).toArray) (t:=52) (fr:=(0,0)) (heap_alloc_new w _)) (opL_one x.1) (by unfold maxLen;omega) (by omega) (by have:=hw.lt;omega)
 obtain⟨so,sc,rfl⟩:=own_shape ho
 have hrow:∀k,ov.ownBlock=some k→mb<k:=fun k hk=>by have:=(hw.ops.lt k hk).1;omega
 have hmb:w'.heap[mb]? =(w.alloc (opO x.1)).heap[mb]? :=hg.block mb hw.lt fun hk=>by have:=hrow mb hk.symm;omega
 have st:Step mb (w.alloc (opO x.1)) w':=step_grow hw.lt hw.ops (.inl rfl) hg
 have st2:=st.trans (Step.set (g:=mb) (w:=w') 0 (.slice so (s.ops.length+1) sc))
 refine⟨so,sc,w',hr,?_,⟨.slice so (s.ops.length+1) sc,lv,L++[x],?_,?_,?_,?_,?_⟩,?_⟩
 ·rw[hmb,Below.heap_alloc _ _ _ h.lt]
 ·rw[set_oneQ (hmb.trans hw.box)];rfl
 ·have :=own_set' (m:=mb) (i:=0) (x:=.slice so (s.ops.length+1) sc) ho (Nat.lt_succ_self mb)
  rw[show (s.add (stripO x)).ops.length=s.ops.length+1 from by simp[MS.add],rowO_app]
  simpa[rowO]using this
 ·exact own_set' (grow_keep hw.ops hw.lab (by decide) hg) (Nat.lt_succ_self mb)
 ·rw[List.map_append,h.str];rfl
 ·intro y hy
  rcases List.mem_append.1 hy with hy|hy
  ·exact(hw.set y hy).step st2
  ·rw [List.mem_singleton.1 hy]
   exact SetK.step (own_below hx (allocB w _)) st2
 ·exact(Step.of_below (allocB w _) h.lt).trans st2
theorem MV.appL(h:MV w mb g s ov lv L)(hl:s.lab.length≤20000):∃so sc w',(Builtin.append_ #[44,44] 44 #[lv,.slice (some ⟨w.heap.size,0,none⟩) 1 1]).run prog (w.alloc (.cells #[.int .i64 0] 3))=.ok (.slice so (s.lab.length+1) sc) w'∧w'.heap[mb]? =w.heap[mb]? ∧MV (w'.setCell ⟨mb,3,none⟩ (.slice so (s.lab.length+1) sc)) mb g s.newL ov (.slice so (s.lab.length+1) sc) L∧Step mb w (w'.setCell ⟨mb,3,none⟩ (.slice so (s.lab.length+1) sc)):=by
 obtain⟨i0,hi,hz0,hz1,hz2⟩:=info_parts info3
 have hw:=h.alloc (.cells #[.int .i64 0] 3)
 obtain⟨v',w',hr,ho,hg,_,hat⟩:=run_append_own_at (P:=prog) (w.alloc (.cells #[.int .i64 0] 3)) (mb+1) 44 44 3 i0 _ 1 8 underlying44 hi hz0 hz1 hz2 rfl (by decide) lv s.lab.length (labV s.lab) hw.lab ⟨w.heap.size,0,none⟩ 1 1 [.int .i64 0] rfl (World.news_of_block (cs:=#[.int .i64 0]) (t:=3) (fr:=(0,0)) (heap_alloc_new w _)) (by intro u hu;simp at hu;rw[hu];rfl) (by unfold maxLen;omega) (by omega) (by have:=hw.lt;omega)
 obtain⟨so,sc,rfl⟩:=own_shape ho
 have hrow:∀k,lv.ownBlock=some k→mb<k:=fun k hk=>by have:=(hw.lab.lt k hk).1;omega
 have hmb:w'.heap[mb]? =(w.alloc (.cells #[.int .i64 0] 3)).heap[mb]? :=hg.block mb hw.lt fun hk=>by have:=hrow mb hk.symm;omega
 have st:Step mb (w.alloc (.cells #[.int .i64 0] 3)) w':=step_grow hw.lt hw.lab (.inr rfl) hg
 have st2:=st.trans (Step.set (g:=mb) (w:=w') 3 (.slice so (s.lab.length+1) sc))
 refine⟨so,sc,w',hr,?_,⟨?_,?_,?_,h.str,?_⟩,?_⟩
 ·rw[hmb,Below.heap_alloc _ _ _ h.lt]
 ·rw[set_oneQ (hmb.trans hw.box)];rfl
 ·exact own_set' (grow_keep hw.lab hw.ops (by decide) hg) (Nat.lt_succ_self mb)
 ·have :=own_set' (m:=mb) (i:=3) (x:=.slice so (s.lab.length+1) sc) ho (Nat.lt_succ_self mb)
  rw[show s.newL.lab.length=s.lab.length+1 from by simp[MS.newL],show labV s.newL.lab=labV s.lab++[.int .i64 0]from by simp[labV,MS.newL]]
  exact this
 ·exact fun y hy=>(hw.set y hy).step st2
 ·exact(Step.of_below (allocB w _) h.lt).trans st2
theorem own_put{W:World}{B e b n cap:Nat}{xs:List Value}(h:W.ownsRow B e 1 (.slice (some ⟨b,0,none⟩) n cap) n xs)(i:Nat)(v:Value):(W.setCell ⟨b,i,none⟩ v).ownsRow B e 1 (.slice (some ⟨b,0,none⟩) n cap) n (xs.set i v):=by
 obtain⟨h1,h2⟩:=h
 rcases h2 with⟨h0,_⟩|⟨b',cap',cur,hv,hB,hh,hn,hm,hs,ht⟩
 ·cases h0
 ·cases hv
  refine⟨by simpa using h1,.inr ⟨b,cap,_,rfl,hB,set_oneQ hh i v,hn,hm,by simpa using hs,?_⟩⟩
  rw[Array.toList_setIfInBounds,List.take_set,ht]
theorem MV.put{b cap:Nat}(h:MV w mb g s ov (.slice (some ⟨b,0,none⟩) s.lab.length cap) L)(l:Nat):MV (w.setCell ⟨b,l,none⟩ (.int .i64 (s.ops.length:Int))) mb g (s.stand l) ov (.slice (some ⟨b,0,none⟩) s.lab.length cap) L∧Step mb w (w.setCell ⟨b,l,none⟩ (.int .i64 (s.ops.length:Int))):=by
 have hb:mb+1≤b:=own_ge h.lab
 have hcur:∃cur,w.heap[b]? =some (.cells cur 3 (0,0)):=by
  rcases h.lab.2 with⟨h0,_⟩|⟨b',cap',cur,hv,_,hh,_⟩
  ·cases h0
  ·cases hv;exact⟨cur,hh⟩
 obtain⟨cur,hcur⟩:=hcur
 have st:Step mb w (w.setCell ⟨b,l,none⟩ (.int .i64 (s.ops.length:Int))):=
  ⟨rfl,rfl,rfl,by simp[World.setCell],fun k hk=>by rw[Below.heap_setCell _ _ _ _ (by show k≠b;omega)],fun k h1 h2 cs e fr hc n1 n2=>by
   rw[Below.heap_setCell _ _ _ _ (by
    show k≠b
    rintro rfl
    rw[hcur]at hc
    cases hc
    exact n2 rfl)]
   exact hc⟩
 refine⟨⟨?_,?_,?_,h.str,fun y hy=>(h.set y hy).step st⟩,st⟩
 ·rw[Below.heap_setCell _ _ _ _ (by show mb≠b;omega)];exact h.box
 ·refine own_oth h.ops fun k hB _ cs hk=>?_
  rw[Below.heap_setCell _ _ _ _ (by
   show k≠b
   rintro rfl
   rw[hcur]at hk
   cases hk)]
  exact hk
 ·have :=own_put h.lab l (.int .i64 (s.ops.length:Int))
  rw[show (s.stand l).lab.length=s.lab.length from by simp[MS.stand],show labV (s.stand l).lab=(labV s.lab).set l (.int .i64 (s.ops.length:Int))from by simp[labV,MS.stand]]
  exact this
theorem MV.cnt1(h:MV w mb g s ov lv L):MV (w.setCell ⟨mb,2,none⟩ (.int .i64 ((s.cnt:Int)+1))) mb g s.newC ov lv L∧Step mb w (w.setCell ⟨mb,2,none⟩ (.int .i64 ((s.cnt:Int)+1))):=by
 have st:Step mb w (w.setCell ⟨mb,2,none⟩ (.int .i64 ((s.cnt:Int)+1))):=Step.set 2 _
 refine⟨⟨?_,own_set' h.ops (Nat.lt_succ_self mb),own_set' h.lab (Nat.lt_succ_self mb),h.str,fun y hy=>(h.set y hy).step st⟩,st⟩
 rw[set_oneQ h.box]
 rfl
theorem step_run{P:Program}{ops:Array Oper}{o:Oper}{a:Act}{w:World}{K:Act→World→Prop}{Q:Exit→Act→World→Prop}{E:Prop}(hgd:o.guard=none)(s x:Operand)(t:TypeId)
  (ho:o.op=.call { callee:=.builtin .append,args:=#[s,x],argTypes:=#[t,t] }) (v v2 v':Value) (w':World) (hs:a.eval s=v) (hx:a.eval x=v2) (hr:(Builtin.append_ #[t,t] o.type #[v,v2]).run P w=.ok v' w') (h:K (a.put o.dst v') w'):
  if Region.wanted o (yielded ops a.tmps)=true then Oper.wp P o a w K Q else E:=by
 have hw:Region.wanted o (yielded ops a.tmps)=true:=by simp[Region.wanted,hgd]
 rw[if_pos hw]
 unfold Oper.wp execOp
 simp only[ho,resolve,invoke,builtin,Sem.run_bind,Sem.run_pure,Result.andThen_ok,List.map_toArray,List.map_cons,List.map_nil,hs,hx,hr]
 exact h
variable {w w' : World} {mb : Nat} {g : Int} {s s' : MS}
theorem add_any(h:MB w mb g s)(o:OpV)(S:RL)(hx:SetK w mb (o,S))(hl:s.ops.length≤20000):Calls prog 43 #[.pointer (some ⟨mb,0,none⟩),opV o] w fun e w'=>MkE mb g (s.add (stripO (o,S))) w e w':=by
 obtain⟨ov,lv,L,h⟩:=h
 obtain⟨oo,oc,rfl⟩:=own_shape h.ops
 have hgw:=h.lt
 obtain⟨W,hW⟩:=named (w.alloc (opO o))
 have hbW:Below w.heap.size w W:=by rw[hW];exact allocB _ _
 have hbx:W.heap[w.heap.size]? =some (opO o):=by rw[hW];exact at_new _ _
 have h1:=h.keep hbW
 obtain⟨so,sc,w6,hap,hmb,hrb,hst⟩:=h1.drew.appO (o,S) (own_below (own_below hx hbW) (drew1 W)) hl
 obtain⟨c0, -, -, -⟩:=h1.rd
 have hgW:=h1.lt
 obtain⟨b0,b1,b2,b3,b4,b5,b6,b7⟩:=op_cells hbx
 obtain⟨n,hn⟩:=named s.ops.length
 obtain⟨n1,hn1⟩:=named (s.ops.length+1)
 rw[← hn1]at hap hrb hst
 rw[← hn]at c0 hap
 simp only at hap
 have hbb:w6.heap[mb]? =some (mkO (.slice oo n oc) g s.cnt lv):=by rw[hmb,hn];exact h1.drew.box
 have k0:w6.cell? ⟨mb,0,none⟩=some (.slice oo n oc):=by simp[World.cell?,hbb]
 have kf:∀o,w6.frozen? ⟨mb,o,none⟩=false:=by intro o;simp[World.frozen?,hbb]
 have c0a:∀o,(W.drew.alloc o).cell? ⟨mb,0,none⟩=some (.slice oo n oc):=fun o=>below_cell ((belR _ W.drew).alloc (leR _) o) hgW c0
 have HAP:=hide hap
 have HRB:=hide hrb
 have HST:Hid (Step mb w (w6.setCell ⟨mb,0,none⟩ (.slice so n1 sc))):=(Step.of_below hbW hgw).trans ((Step.of_below (drew1 W) hgW).trans hst)
 have hgk:mb<w6.heap.size:=lt_of_block hbb
 simp only[opO]at hW
 clear h h1 hx hbW hbx hap hrb hst hbb hmb hn hn1
 go_enter func43,ntmps43
 go_upto_region 1 with fail
 rw[← hW]
 clear hW
 go_region_law
  ((refine step_run rfl _ _ _ rfl _ _ (.slice so n1 sc) w6 (by rfl) (by rfl) HAP.out ?_))
 all_goals
  go_wp2
  go_end0
  exact⟨rfl,HRB.out,HST.out⟩
theorem newC_any(h:MB w mb g s)(hc:s.cnt≤20000):Calls prog 110 #[.pointer (some ⟨mb,0,none⟩)] w fun e w'=>e=.returned (.int .i64 (s.cnt:Int))∧MB w' mb g s.newC∧Step mb w w':=by
 obtain⟨ov,lv,L,h⟩:=h
 obtain⟨-, -,c2, -⟩:=h.rd
 have f2:=h.fr 2
 have hgw:=h.lt
 obtain⟨h1,st⟩:=h.cnt1
 have HM:Hid (MB _ mb g s.newC):=⟨_,_,_,h1⟩
 have HST:=hide st
 obtain⟨c,hcc⟩:=named s.cnt
 rw[← hcc]at HM HST c2 hc ⊢
 have hw:IntKind.i64.wrap ((c:Int)+1)=(c:Int)+1:=by rw[IntKind.wrap_i64];omega
 have hw2:IntKind.i64.wrap ((c:Int)+1 - 1)=(c:Int):=by rw[IntKind.wrap_i64];omega
 clear h h1 st hcc
 go_enter func110,ntmps110
 go_wp2
 go_ret
 exact⟨by simp,HM.out,HST.out⟩
theorem newL_any(h:MB w mb g s)(hl:s.lab.length≤20000):Calls prog 108 #[.pointer (some ⟨mb,0,none⟩)] w fun e w'=>e=.returned (.int .i64 (s.lab.length:Int))∧MB w' mb g s.newL∧Step mb w w':=by
 obtain⟨ov,lv,L,h⟩:=h
 obtain⟨lo,lc,rfl⟩:=own_shape h.lab
 have hgw:=h.lt
 obtain⟨-, -, -,c3⟩:=h.rd
 obtain⟨so,sc,w6,hap,hmb,hm,hst⟩:=h.appL hl
 obtain⟨W,hW⟩:=named (w.alloc (.cells #[.int .i64 0] 3))
 obtain⟨n,hn⟩:=named s.lab.length
 rw[← hn]at c3 hap hm hst hl ⊢
 rw[← hW]at hap
 have hbb:w6.heap[mb]? =some (mkO ov g s.cnt (.slice lo n lc)):=by rw[hmb,hn];exact h.box
 have k3:w6.cell? ⟨mb,3,none⟩=some (.slice lo n lc):=by simp[World.cell?,hbb]
 have kf:∀o,w6.frozen? ⟨mb,o,none⟩=false:=by intro o;simp[World.frozen?,hbb]
 have hgk:mb<w6.heap.size:=lt_of_block hbb
 obtain⟨-, -, -,k3'⟩:=hm.rd
 have HM:Hid (MB _ mb g s.newL):=⟨_,_,_,hm⟩
 have HST:=hide hst
 have HAP:=hide hap
 have hw2:IntKind.i64.wrap (((n+1:Nat):Int) - 1)=(n:Int):=by rw[IntKind.wrap_i64];omega
 clear h hap hm hst hbb hmb hn
 go_enter func108,ntmps108
 go_wp2_with (rw[← hW];at_builtin;refine wpList_run rfl _ _ _ rfl _ _ (.slice so (n+1) sc) w6 (by rfl) (by rfl) HAP.out ?_)
 go_ret
 exact⟨by simp,HM.out,HST.out⟩
theorem stand_any(h:MB w mb g s)(l:Nat)(hl:l<s.lab.length):Calls prog 109 #[.pointer (some ⟨mb,0,none⟩),.int .i64 (l:Int)] w fun e w'=>MkE mb g (s.stand l) w e w':=by
 obtain⟨ov,lv,L,h⟩:=h
 obtain⟨b,lc,rfl⟩:=own_some h.lab (by omega)
 obtain⟨oo,oc,rfl⟩:=own_shape h.ops
 obtain⟨c0, -, -,c3⟩:=h.rd
 have hgw:=h.lt
 obtain⟨hm,hst⟩:=h.drew.put l
 have hcell:=h.lab.cellAt l (by omega)
 have hcl:∃z,w.cell? ⟨b,l,none⟩=some (.int .i64 z):=by
  rw[hcell]
  refine⟨(s.lab[l]:Nat),?_⟩
  simp[labV,hl]
 obtain⟨z,hcl⟩:=hcl
 have hfr:w.frozen? ⟨b,l,none⟩=false:=by
  rcases h.lab.2 with⟨h0,_⟩|⟨b',cap',cur,hv,_,hh,_⟩
  ·cases h0
  ·cases hv;simp[World.frozen?,hh]
 obtain⟨n,hn⟩:=named s.lab.length
 obtain⟨m,hmm⟩:=named s.ops.length
 rw[← hn]at c3 hl hm
 rw[← hmm]at c0 hm hst
 have HM:Hid (MB _ mb g (s.stand l)):=⟨_,_,_,hm⟩
 have HST:=hide ((Step.of_below (drew1 w) hgw).trans hst)
 have e1:(0:Int)≤(l:Int):=by omega
 have e2:(l:Int)<(n:Int):=by omega
 clear h hm hst hcell hn hmm
 go_enter func109,ntmps109
 go_region
 go_wp2
 go_end0
 exact⟨rfl,HM.out,HST.out⟩
variable {w w' : World} {mb : Nat} {g : Int} {s s' : MS}
theorem z1(s:MS)(o:PO):(s.add o).ops.length=s.ops.length+1:=by simp[MS.add]
theorem z2(s:MS)(o:PO):(s.add o).lab.length=s.lab.length:=rfl
theorem z3(s:MS)(o:PO):(s.add o).cnt=s.cnt:=rfl
theorem z4(s:MS):s.newC.ops.length=s.ops.length:=rfl
theorem z5(s:MS):s.newC.lab.length=s.lab.length:=rfl
theorem z6(s:MS):s.newC.cnt=s.cnt+1:=rfl
theorem z7(s:MS):s.newL.ops.length=s.ops.length:=rfl
theorem z8(s:MS):s.newL.lab.length=s.lab.length+1:=by simp[MS.newL]
theorem z9(s:MS):s.newL.cnt=s.cnt:=rfl
theorem za(s:MS)(l:Nat):(s.stand l).ops.length=s.ops.length:=rfl
theorem zb(s:MS)(l:Nat):(s.stand l).lab.length=s.lab.length:=by simp[MS.stand]
theorem zc(s:MS)(l:Nat):(s.stand l).cnt=s.cnt:=rfl
abbrev ov0(d t o k l:Int)(f b:Bool):OpV:=⟨d,none,0,0,t,o,k,l,f,b⟩
theorem set0(w:World)(mb:Nat)(d t o k l:Int)(f b:Bool):SetK w mb (ov0 d t o k l f b,[]):=World.ownsRow_nil _ _ _ _
theorem add0(h:MB w mb g s)(d t o k l:Int)(f b:Bool)(hl:s.ops.length≤20000):Calls prog 43 #[.pointer (some ⟨mb,0,none⟩),opV (ov0 d t o k l f b)] w fun e w'=>MkE mb g (s.add { dn:=d,to:=t,other:=o,kind:=k,least:=l,fold:=f,back:=b }) w e w':=
 add_any h (ov0 d t o k l f b) [] (set0 w mb d t o k l f b) hl
theorem newC_at(h:MB w mb g s)(c:Nat)(hc:s.cnt=c)(hb:c≤20000):Calls prog 110 #[.pointer (some ⟨mb,0,none⟩)] w fun e w'=>e=.returned (.int .i64 (c:Int))∧MB w' mb g s.newC∧Step mb w w':=by
 subst hc;exact newC_any h hb
theorem newL_at(h:MB w mb g s)(l:Nat)(hc:s.lab.length=l)(hb:l≤20000):Calls prog 108 #[.pointer (some ⟨mb,0,none⟩)] w fun e w'=>e=.returned (.int .i64 (l:Int))∧MB w' mb g s.newL∧Step mb w w':=by
 subst hc;exact newL_any h hb
def MS.fits(s:MS):Prop:=s.ops.length≤12000∧s.lab.length≤8000∧s.cnt≤2000
theorem MS.le.fits(h:s.le s')(k:s'.fits):s.fits:=⟨Nat.le_trans h.ops k.1,Nat.le_trans h.lab k.2.1,Nat.le_trans h.cnt k.2.2⟩
def DoesF(mb:Nat)(g:Int)(w0:World)(k:Nat)(cs:Array Value)(f:MS→MS):Prop:=∀(W:World) (s:MS),Step mb w0 W→MB W mb g s→(f s).fits→Calls prog k cs W fun e w'=>MkE mb g (f s) W e w'
theorem first_any(h:MB w mb g s)(b:Bool)(k:Nat)(cs:Array Value)(eg:∀args w,(callFunc k args).run prog w=.ok (.enter k args) w)(f:MS→MS)(hu:Up f)(hf:DoesF mb g w k cs f)(hs:(firstM b f s).fits):Calls prog 69 #[.pointer (some ⟨mb,0,none⟩),.bool b,.func (.func k) #[] cs] w fun e w'=>MkE mb g (firstM b f s) w e w':=by
 have hs0:=(first_up b hu s).fits hs
 have hf1:(f (s.newC.add { dn:=7,to:=s.cnt })).fits:=(le_add _ _).fits hs
 have HC1:=hide (newC_any h (by have:=hs0.2.2;omega))
 obtain⟨c,hc⟩:=named s.cnt
 unfold firstM
 rw[← hc]at HC1 hf1 ⊢
 have HF:=hide hf
 have HF1:=hide hf1
 have HS0:=hide hs0
 clear h hf hs hs0 hf1 hc
 go_enter func69,ntmps69
 go_wp2_with fail
 refine HC1.out.mono ?_
 rintro e w1 ⟨rfl,h1,st1⟩
 have HC2:=hide (add0 h1 7 c 0 0 0 false false (by have:=HS0.out.1;rw[z4];omega))
 have HT1:=hide st1
 clear HC1 h1 st1
 go_wp2_with fail
 refine HC2.out.mono ?_
 rintro e w2 ⟨rfl,h2,st2⟩
 have HT2:=hide (HT1.out.trans st2)
 have HC3:=hide (HF.out w2 _ HT2.out h2 HF1.out)
 clear HC2 h2 st2 HT1 HF
 go_wp2_with fail
 refine HC3.out.mono ?_
 rintro e w3 ⟨rfl,h3,st3⟩
 have HC4:=hide (add0 h3 8 c 0 0 0 false b (by have:=HF1.out.1;omega))
 have HT3:=hide (HT2.out.trans st3)
 clear HC3 h3 st3 HT2
 go_wp2_with fail
 refine HC4.out.mono ?_
 rintro e w4 ⟨rfl,h4,st4⟩
 have HH:=hide h4
 have HT4:=hide (HT3.out.trans st4)
 clear HC4 h4 st4 HT3
 go_wp2
 go_end0
 exact⟨rfl,HH.out,HT4.out⟩
variable {w w' : World} {mb : Nat} {g : Int} {s s' : MS}
theorem none_any(h:MB w mb g s)(k:Nat)(cs:Array Value)(eg:∀args w,(callFunc k args).run prog w=.ok (.enter k args) w)(f:MS→MS)(hu:Up f)(hf:DoesF mb g w k cs f)(hs:(noneM f s).fits):Calls prog 72 #[.pointer (some ⟨mb,0,none⟩),.func (.func k) #[] cs] w fun e w'=>MkE mb g (noneM f s) w e w':=by
 have HS0:=hide ((none_up hu s).fits hs)
 have HT0:=hide (Step.refl mb w)
 have HF:=hide hf
 have HF1:Hid (f (((s.newC.newL.newL.add ⟨7,[],(s.cnt:Int),0,0,0,false,false⟩).add ⟨3,[],(s.lab.length:Int),((s.lab.length+1:Nat):Int),0,0,false,false⟩).stand s.lab.length)).fits:=(((le_add _ _).add _).stand _).fits hs
 have HU1:Hid ((((s.newC.newL.newL.add ⟨7,[],(s.cnt:Int),0,0,0,false,false⟩).add ⟨3,[],(s.lab.length:Int),((s.lab.length+1:Nat):Int),0,0,false,false⟩).stand s.lab.length).le (f (((s.newC.newL.newL.add ⟨7,[],(s.cnt:Int),0,0,0,false,false⟩).add ⟨3,[],(s.lab.length:Int),((s.lab.length+1:Nat):Int),0,0,false,false⟩).stand s.lab.length))):=hu _
 obtain⟨c,hc⟩:=named s.cnt
 have HN0:=hide hc
 clear hc
 obtain⟨l,hl⟩:=named s.lab.length
 have HN1:=hide hl
 clear hl
 obtain⟨l1,hl1⟩:=named (l+1)
 have HN2:=hide hl1
 clear hl1
 rw[← HN1.out, ←HN2.out, ←HN0.out]at HF1 HU1
 clear hf hs hu
 go_enter func72,ntmps72
 have HC1:=hide (newC_at h c (by have e0:=HN0.out;have e1:=HN1.out;have e2:=HN2.out;have:=HS0.out.1;have:=HS0.out.2.1;have:=HS0.out.2.2;(try simp only[z1,z2,z3,z4,z5,z6,z7,z8,z9,za,zb,zc]);omega) (by have e0:=HN0.out;have e1:=HN1.out;have e2:=HN2.out;have:=HS0.out.1;have:=HS0.out.2.1;have:=HS0.out.2.2;(try simp only[z1,z2,z3,z4,z5,z6,z7,z8,z9,za,zb,zc]);omega))
 clear h
 go_wp2_with fail
 refine HC1.out.mono ?_
 rintro e w1 ⟨rfl,h1,st1⟩
 have HT1:=hide (HT0.out.trans st1)
 clear HC1 HT0
 have HC2:=hide (newL_at h1 l (by have e0:=HN0.out;have e1:=HN1.out;have e2:=HN2.out;have:=HS0.out.1;have:=HS0.out.2.1;have:=HS0.out.2.2;(try simp only[z5]);omega) (by have e0:=HN0.out;have e1:=HN1.out;have e2:=HN2.out;have:=HS0.out.1;have:=HS0.out.2.1;have:=HS0.out.2.2;(try simp only[z1,z2,z3,z4,z5,z6,z7,z8,z9,za,zb,zc]);omega))
 clear h1 st1
 go_wp2_with fail
 refine HC2.out.mono ?_
 rintro e w2 ⟨rfl,h2,st2⟩
 have HT2:=hide (HT1.out.trans st2)
 clear HC2 HT1
 have HC3:=hide (newL_at h2 l1 (by have e0:=HN0.out;have e1:=HN1.out;have e2:=HN2.out;have:=HS0.out.1;have:=HS0.out.2.1;have:=HS0.out.2.2;(try simp only[z5,z8]);omega) (by have e0:=HN0.out;have e1:=HN1.out;have e2:=HN2.out;have:=HS0.out.1;have:=HS0.out.2.1;have:=HS0.out.2.2;(try simp only[z1,z2,z3,z4,z5,z6,z7,z8,z9,za,zb,zc]);omega))
 clear h2 st2
 go_wp2_with fail
 refine HC3.out.mono ?_
 rintro e w3 ⟨rfl,h3,st3⟩
 have HT3:=hide (HT2.out.trans st3)
 clear HC3 HT2
 have HC4:=hide (add0 h3 7 c 0 0 0 false false (by have e0:=HN0.out;have e1:=HN1.out;have e2:=HN2.out;have:=HS0.out.1;have:=HS0.out.2.1;have:=HS0.out.2.2;(try simp only[z4,z7]);omega))
 clear h3 st3
 go_wp2_with fail
 refine HC4.out.mono ?_
 rintro e w4 ⟨rfl,h4,st4⟩
 have HT4:=hide (HT3.out.trans st4)
 clear HC4 HT3
 have HC5:=hide (add0 h4 3 l l1 0 0 false false (by have e0:=HN0.out;have e1:=HN1.out;have e2:=HN2.out;have:=HS0.out.1;have:=HS0.out.2.1;have:=HS0.out.2.2;(try simp only[z1,z4,z7]);omega))
 clear h4 st4
 go_wp2_with fail
 refine HC5.out.mono ?_
 rintro e w5 ⟨rfl,h5,st5⟩
 have HT5:=hide (HT4.out.trans st5)
 clear HC5 HT4
 have HC6:=hide (stand_any h5 l (by have e0:=HN0.out;have e1:=HN1.out;have e2:=HN2.out;have:=HS0.out.1;have:=HS0.out.2.1;have:=HS0.out.2.2;(try simp only[z2,z5,z8]);omega))
 clear h5 st5
 go_wp2_with fail
 refine HC6.out.mono ?_
 rintro e w6 ⟨rfl,h6,st6⟩
 have HT6:=hide (HT5.out.trans st6)
 clear HC6 HT5
 have HC7:=hide (HF.out w6 _ HT6.out h6 HF1.out)
 clear h6 st6
 go_wp2_with fail
 refine HC7.out.mono ?_
 rintro e w7 ⟨rfl,h7,st7⟩
 have HT7:=hide (HT6.out.trans st7)
 clear HC7 HT6
 clear HF
 have HC8:=hide (add0 h7 8 c 0 0 0 false false (by have e0:=HN0.out;have e1:=HN1.out;have e2:=HN2.out;have:=HS0.out.1;have:=HS0.out.2.1;have:=HS0.out.2.2;have:=HF1.out.1;have:=HF1.out.2.1;have:=HF1.out.2.2;have qHU1:=HU1.out.lab;have rHU1:=HU1.out.cnt;(try simp only[z2,z5,z8,zb]at qHU1);(try simp only[z3,z6,z9,zc]at rHU1);(try simp only[z1,z2,z3,z4,z5,z6,z7,z8,z9,za,zb,zc]);omega))
 clear h7 st7
 go_wp2_with fail
 refine HC8.out.mono ?_
 rintro e w8 ⟨rfl,h8,st8⟩
 have HT8:=hide (HT7.out.trans st8)
 clear HC8 HT7
 have HC9:=hide (add0 h8 14 0 0 0 0 false false (by have e0:=HN0.out;have e1:=HN1.out;have e2:=HN2.out;have:=HS0.out.1;have:=HS0.out.2.1;have:=HS0.out.2.2;have:=HF1.out.1;have:=HF1.out.2.1;have:=HF1.out.2.2;have qHU1:=HU1.out.lab;have rHU1:=HU1.out.cnt;(try simp only[z2,z5,z8,zb]at qHU1);(try simp only[z3,z6,z9,zc]at rHU1);(try simp only[z1]);omega))
 clear h8 st8
 go_wp2_with fail
 refine HC9.out.mono ?_
 rintro e w9 ⟨rfl,h9,st9⟩
 have HT9:=hide (HT8.out.trans st9)
 clear HC9 HT8
 have HC10:=hide (stand_any h9 l1 (by have e0:=HN0.out;have e1:=HN1.out;have e2:=HN2.out;have:=HS0.out.1;have:=HS0.out.2.1;have:=HS0.out.2.2;have:=HF1.out.1;have:=HF1.out.2.1;have:=HF1.out.2.2;have qHU1:=HU1.out.lab;have rHU1:=HU1.out.cnt;(try simp only[z2,z5,z8,zb]at qHU1);(try simp only[z3,z6,z9,zc]at rHU1);(try simp only[z2]);omega))
 clear h9 st9
 go_wp2_with fail
 refine HC10.out.mono ?_
 rintro e w10 ⟨rfl,h10,st10⟩
 have HT10:=hide (HT9.out.trans st10)
 clear HC10 HT9
 have HH:=hide h10
 clear h10 st10
 go_wp2
 go_end0
 have e2:=HN2.out
 have e1:=HN1.out
 have e0:=HN0.out
 subst e2 e1 e0
 exact⟨rfl,HH.out,HT10.out⟩
end Go.Proofs.YtfnndcbjklppeaaGreatDoor.Mk
