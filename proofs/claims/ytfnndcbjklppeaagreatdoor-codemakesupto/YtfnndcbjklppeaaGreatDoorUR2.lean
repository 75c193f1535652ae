import Derived.Test.YtfnndcbjklppeaaGreatDoorUB2
import Derived.Test.YtfnndcbjklppeaaGreatDoorUQ2
import Derived.Test.YtfnndcbjklppeaaGreatDoorUI2
import Derived.Maps.AppendAt
import Derived.Deep.RegionLaw
import Derived.StillTailTactics
import Derived.Deep.RegionHeld
set_option linter.unusedVariables false
set_option maxRecDepth 100000
set_option maxHeartbeats 4000000
open Go.Proofs.Tryz
namespace Go.Proofs.YtfnndcbjklppeaaGreatDoor.Vm
open Go.RowKit
structure XS where
 pos:Int
 next:Int
 num:Int
 ch:List Int
 bk:List (Int×Int×Int)
structure ME where
 B:Nat
 M:Nat
 cb:Nat
 px:Addr
 pc:Nat
 sx:Addr
 sc:Nat
 oa:Option Addr
 oc:Nat
 ga:Option Addr
 gc:Nat
abbrev mcO(E:ME)(s:XS)(cv bv:Value):Obj:=.cells #[.slice (some E.px) 3 E.pc,.int .i64 s.pos,.int .i64 0,.slice (some E.sx) 4 E.sc,.slice none 0 0,.slice E.oa 8 E.oc,.int .i64 0,.int .i64 1,.int .i64 s.next,.slice E.ga 0 E.gc,.slice none 0 0,.slice (some ⟨E.cb,0,none⟩) 1 1,cv,bv] 91
abbrev cnO(n:Int):Obj:=.cells #[.int .i64 n,.int .i64 0,.int .i64 0] 149
def chL(n:Int):List Value:=[.int .i64 0,.int .i64 n,.int .i64 0,.int .i64 0]
def bkL(b:Int×Int×Int):List Value:=[.int .i64 b.1,.int .i64 b.2.1,.int .i64 0,.int .i64 b.2.2]
def rowCh(l:List Int):List Value:=l.flatMap chL
def rowBk(l:List (Int×Int×Int)):List Value:=l.flatMap bkL
structure MX(w:World)(E:ME)(s:XS)(cv bv:Value):Prop where
 box:w.heap[E.M]? =some (mcO E s cv bv)
 cnt:w.heap[E.cb]? =some (cnO s.num)
 ch:w.ownsRow E.B 188 4 cv s.ch.length (rowCh s.ch)
 bk:w.ownsRow E.B 152 4 bv s.bk.length (rowBk s.bk)
 lm:E.B≤E.M
 lc:E.B≤E.cb
structure FX(E:ME)(w w':World):Prop where
 low:Below E.B w w'
 oth:∀k cs e fr,w.heap[k]? =some (.cells cs e fr)→k≠E.M→k≠E.cb→e≠188→e≠152→w'.heap[k]? =some (.cells cs e fr)
variable {w w' : World} {E : ME} {s s' : XS} {cv bv : Value}
theorem FX.refl(E:ME)(w:World):FX E w w:=⟨belR _ _,fun _ _ _ _ h _ _ _ _=>h⟩
theorem FX.trans{w1 w2:World}(h:FX E w w1)(k:FX E w1 w2):FX E w w2:=⟨h.low.trans k.low,fun i cs e fr hc a b c d=>k.oth i cs e fr (h.oth i cs e fr hc a b c d) a b c d⟩
theorem FX.of(h:Below w.heap.size w w')(hB:E.B≤w.heap.size):FX E w w':=⟨h.mono hB,fun k cs e fr hc _ _ _ _=>by rw[h.block k (lt_of_block hc)];exact hc⟩
theorem own_below{B e:Nat}{w w':World}{v:Value}{n k:Nat}{xs:List Value}(h:w.ownsRow B e k v n xs)(hb:Below w.heap.size w w'):w'.ownsRow B e k v n xs:=by
 refine⟨h.1,?_⟩
 rcases h.2 with h2|⟨g,cap,cur,rfl,h3,hg,h4⟩
 ·exact Or.inl h2
 ·exact Or.inr ⟨g,cap,cur,rfl,h3,by rw[hb.block g (Array.getElem?_eq_some_iff.1 hg).1];exact hg,h4⟩
theorem own_oth{B e k n:Nat}{u:Value}{xs:List Value}(ho:w.ownsRow B e k u n xs)(hk:∀(b:Nat) (cs:Array Value),w.heap[b]? =some (Obj.cells cs e (0,0))→w'.heap[b]? =some (Obj.cells cs e (0,0))):w'.ownsRow B e k u n xs:=by
 refine⟨ho.1,?_⟩
 rcases ho.2 with h|⟨b,cap,cur,rfl,h3,hb,h4⟩
 ·exact .inl h
 ·exact .inr ⟨b,cap,cur,rfl,h3,hk b cur hb,h4⟩
theorem MX.keep(h:MX w E s cv bv)(hb:Below w.heap.size w w'):MX w' E s cv bv:=
 ⟨below_at hb h.box,below_at hb h.cnt,own_below h.ch hb,own_below h.bk hb,h.lm,h.lc⟩
theorem MX.lt(h:MX w E s cv bv):E.M<w.heap.size:=lt_of_block h.box
theorem MX.ltB(h:MX w E s cv bv):E.B≤w.heap.size:=by have:=h.lt;have:=h.lm;omega
theorem MX.ne(h:MX w E s cv bv):E.M≠E.cb:=fun e=>by
 have h1:=h.box
 rw[e,h.cnt]at h1
 cases h1
theorem drew1(w:World):Below w.heap.size w w.drew:=⟨rfl,rfl,rfl,leR _,fun _ _=>rfl⟩
theorem MX.drew(h:MX w E s cv bv):MX w.drew E s cv bv:=h.keep (drew1 w)
theorem MX.rd(h:MX w E s cv bv):w.cell? ⟨E.M,0,none⟩=some (.slice (some E.px) 3 E.pc)∧w.cell? ⟨E.M,1,none⟩=some (.int .i64 s.pos)∧w.cell? ⟨E.M,2,none⟩=some (.int .i64 0)∧w.cell? ⟨E.M,3,none⟩=some (.slice (some E.sx) 4 E.sc)∧w.cell? ⟨E.M,5,none⟩=some (.slice E.oa 8 E.oc)∧w.cell? ⟨E.M,8,none⟩=some (.int .i64 s.next)∧w.cell? ⟨E.M,9,none⟩=some (.slice E.ga 0 E.gc)∧w.cell? ⟨E.M,10,none⟩=some (.slice none 0 0)∧w.cell? ⟨E.M,11,none⟩=some (.slice (some ⟨E.cb,0,none⟩) 1 1)∧w.cell? ⟨E.M,12,none⟩=some cv∧w.cell? ⟨E.M,13,none⟩=some bv:=by
 refine⟨?_,?_,?_,?_,?_,?_,?_,?_,?_,?_,?_⟩<;>simp[World.cell?,h.box]
theorem MX.fr(h:MX w E s cv bv)(i:Nat):w.frozen? ⟨E.M,i,none⟩=false:=by simp[World.frozen?,h.box]
theorem MX.cr(h:MX w E s cv bv):w.cell? ⟨E.cb,0,none⟩=some (.int .i64 s.num)∧w.cell? ⟨E.cb,1,none⟩=some (.int .i64 0)∧w.cell? ⟨E.cb,2,none⟩=some (.int .i64 0):=by
 refine⟨?_,?_,?_⟩<;>simp[World.cell?,h.cnt]
theorem MX.cf(h:MX w E s cv bv)(i:Nat):w.frozen? ⟨E.cb,i,none⟩=false:=by simp[World.frozen?,h.cnt]
theorem FX.set(E:ME)(w:World)(hm:E.B≤E.M)(i:Nat)(v:Value):FX E w (w.setCell ⟨E.M,i,none⟩ v):=
 ⟨(belR _ _).setCell (p:=⟨E.M,i,none⟩) hm v,fun k cs e fr hc a _ _ _=>by rw[Below.heap_setCell _ _ _ _ (by simpa using a)];exact hc⟩
theorem MX.put(h:MX w E s cv bv)(i:Nat)(v:Value)(s':XS)(hb:mcO E s' cv bv=.cells ((#[.slice (some E.px) 3 E.pc,.int .i64 s.pos,.int .i64 0,.slice (some E.sx) 4 E.sc,.slice none 0 0,.slice E.oa 8 E.oc,.int .i64 0,.int .i64 1,.int .i64 s.next,.slice E.ga 0 E.gc,.slice none 0 0,.slice (some ⟨E.cb,0,none⟩) 1 1,cv,bv]:Array Value).setIfInBounds i v) 91)(h1:s'.num=s.num)(h2:s'.ch=s.ch)(h3:s'.bk=s.bk):MX (w.setCell ⟨E.M,i,none⟩ v) E s' cv bv:=by
 have key:∀{k:Nat} {o:Obj},k≠E.M→w.heap[k]? =some o→(w.setCell ⟨E.M,i,none⟩ v).heap[k]? =some o:=fun {k o} hk ho=>by rw[Below.heap_setCell _ _ _ _ (by simpa using hk)];exact ho
 have nm:∀{k:Nat} {cs:Array Value} {e:TypeId} {fr:Nat×Nat},e≠91→w.heap[k]? =some (.cells cs e fr)→k≠E.M:=fun {k cs e fr} he hk ek=>by
  rw[ek,h.box]at hk
  cases hk
  exact he rfl
 refine⟨?_,?_,?_,?_,h.lm,h.lc⟩
 ·rw[set_oneQ h.box,hb]
 ·rw[h1];exact key (Ne.symm h.ne) h.cnt
 ·rw[h2];exact own_oth h.ch fun b cs hb=>key (nm (by decide) hb) hb
 ·rw[h3];exact own_oth h.bk fun b cs hb=>key (nm (by decide) hb) hb
theorem infoCh:(Tryz.prog.info? 188).map (fun i=>(i.zero,i.size,i.bytes))=some (some (.agg #[.int .i64 0,.int .i64 0,.int .i64 0,.int .i64 0]),4,32):=by kernel_rfl
theorem infoBk:(Tryz.prog.info? 152).map (fun i=>(i.zero,i.size,i.bytes))=some (some (.agg #[.int .i64 0,.int .i64 0,.int .i64 0,.int .i64 0]),4,32):=by kernel_rfl
theorem grow_oth{W W1:World}{B e1 k1 n1:Nat}{v1:Value}{xs1:List Value}(h1:W.ownsRow B e1 k1 v1 n1 xs1)(hg:W.grownBy W1 v1.ownBlock){b:Nat}{cs:Array Value}{e:TypeId}{fr:Nat×Nat}(he:e≠e1)(hb:W.heap[b]? =some (.cells cs e fr)):W1.heap[b]? =some (.cells cs e fr):=by
 rw[hg.block b (lt_of_block hb) ?_]
 ·exact hb
 ·intro hx
  rcases h1.2 with⟨rfl,_⟩|⟨b',cap',cur',rfl,_,hb',_⟩
  ·cases hx
  ·have :b=b':=Option.some.inj hx
   subst this
   rw[hb']at hb
   cases hb
   exact he rfl
theorem MX.appB(h:MX w E s cv bv)(b:Int×Int×Int)(hl:s.bk.length≤1000):∃so sc w',(Builtin.append_ #[89,89] 89 #[bv,.slice (some ⟨w.heap.size,0,none⟩) 1 1]).run prog (w.alloc (.cells (bkL b).toArray 152))=.ok (.slice so (s.bk.length+1) sc) w'∧w'.heap[E.M]? =w.heap[E.M]? ∧MX (w'.setCell ⟨E.M,13,none⟩ (.slice so (s.bk.length+1) sc)) E { s with bk:=s.bk++[b] } cv (.slice so (s.bk.length+1) sc)∧FX E w (w'.setCell ⟨E.M,13,none⟩ (.slice so (s.bk.length+1) sc)):=by
 obtain⟨i0,hi,hz0,hz1,hz2⟩:=info_parts infoBk
 have hbl:Below w.heap.size w (w.alloc (.cells (bkL b).toArray 152)):=allocB _ _
 have hw:=h.keep hbl
 obtain⟨v',w',hr,ho,hg,_,hat⟩:=run_append_own_at (P:=prog) (w.alloc (.cells (bkL b).toArray 152)) E.B 89 89 152 i0 _ 4 32 underlying89 hi hz0 hz1 hz2 rfl (by decide) bv s.bk.length (rowBk s.bk) hw.bk ⟨w.heap.size,0,none⟩ 1 1 (bkL b) rfl (World.news_of_block (cs:=(bkL b).toArray) (t:=152) (fr:=(0,0)) (heap_alloc_new w _)) (by intro u hu;simp[bkL]at hu;rcases hu with rfl|rfl|rfl|rfl<;>rfl) (by unfold maxLen;omega) (by omega) hw.ltB
 obtain⟨so,sc,rfl⟩:=own_shape ho
 have hmb:=grow_oth hw.bk hg (by decide) hw.box
 have key:∀{k:Nat} {cs:Array Value} {e:TypeId} {fr:Nat×Nat},k≠E.M→e≠152→(w.alloc (.cells (bkL b).toArray 152)).heap[k]? =some (.cells cs e fr)→(w'.setCell ⟨E.M,13,none⟩ (.slice so (s.bk.length+1) sc)).heap[k]? =some (.cells cs e fr):=fun {k cs e fr} hk he hc=>by
  rw[Below.heap_setCell _ _ _ _ (by simpa using hk)];exact grow_oth hw.bk hg he hc
 have nm:∀{k:Nat} {cs:Array Value} {e:TypeId} {fr:Nat×Nat},e≠91→(w.alloc (.cells (bkL b).toArray 152)).heap[k]? =some (.cells cs e fr)→k≠E.M:=fun {k cs e fr} he hk ek=>by
  rw[ek,hw.box]at hk
  cases hk
  exact he rfl
 have hown:w'.ownsRow E.B 152 4 (.slice so (s.bk.length+1) sc) (s.bk.length+1) (rowBk s.bk++bkL b):=ho
 refine⟨so,sc,w',hr,by rw[hmb,h.box],⟨?_,key (Ne.symm h.ne) (by decide) hw.cnt,own_oth hw.ch fun k cs hc=>key (nm (by decide) hc) (by decide) hc,?_,h.lm,h.lc⟩,?_,?_⟩
 ·rw[set_oneQ hmb];rfl
 ·rw [show ({ s with bk:=s.bk++[b] }:XS).bk.length=s.bk.length+1 from by simp,show rowBk ({ s with bk:=s.bk++[b] }:XS).bk=rowBk s.bk++bkL b from by simp[rowBk]]
  refine own_oth hown fun k cs hc=>?_
  rw[Below.heap_setCell _ _ _ _ (by
   show k≠E.M
   intro ek
   rw[ek,hmb]at hc
   cases hc)]
  exact hc
 ·exact(((belR E.B w).alloc h.ltB _).grown hg hw.ltB (fun k hk=>(hw.bk.lt k hk).1)).setCell (p:=⟨E.M,13,none⟩) h.lm _
 ·intro k cs e fr hc a b' c d
  exact key a d (below_at hbl hc)
theorem MX.appC(h:MX w E s cv bv)(hl:s.ch.length≤1000):∃so sc w',(Builtin.append_ #[86,86] 86 #[cv,.slice (some ⟨w.heap.size,0,none⟩) 1 1]).run prog (w.alloc (.cells (chL s.num).toArray 188))=.ok (.slice so (s.ch.length+1) sc) w'∧w'.heap[E.M]? =w.heap[E.M]? ∧MX (w'.setCell ⟨E.M,12,none⟩ (.slice so (s.ch.length+1) sc)) E { s with ch:=s.ch++[s.num] } (.slice so (s.ch.length+1) sc) bv∧FX E w (w'.setCell ⟨E.M,12,none⟩ (.slice so (s.ch.length+1) sc)):=by
 obtain⟨i0,hi,hz0,hz1,hz2⟩:=info_parts infoCh
 have hbl:Below w.heap.size w (w.alloc (.cells (chL s.num).toArray 188)):=allocB _ _
 have hw:=h.keep hbl
 obtain⟨v',w',hr,ho,hg,_,hat⟩:=run_append_own_at (P:=prog) (w.alloc (.cells (chL s.num).toArray 188)) E.B 86 86 188 i0 _ 4 32 underlying86 hi hz0 hz1 hz2 rfl (by decide) cv s.ch.length (rowCh s.ch) hw.ch ⟨w.heap.size,0,none⟩ 1 1 (chL s.num) rfl (World.news_of_block (cs:=(chL s.num).toArray) (t:=188) (fr:=(0,0)) (heap_alloc_new w _)) (by intro u hu;simp[chL]at hu;rcases hu with rfl|rfl|rfl<;>rfl) (by unfold maxLen;omega) (by omega) hw.ltB
 obtain⟨so,sc,rfl⟩:=own_shape ho
 have hmb:=grow_oth hw.ch hg (by decide) hw.box
 have key:∀{k:Nat} {cs:Array Value} {e:TypeId} {fr:Nat×Nat},k≠E.M→e≠188→(w.alloc (.cells (chL s.num).toArray 188)).heap[k]? =some (.cells cs e fr)→(w'.setCell ⟨E.M,12,none⟩ (.slice so (s.ch.length+1) sc)).heap[k]? =some (.cells cs e fr):=fun {k cs e fr} hk he hc=>by
  rw[Below.heap_setCell _ _ _ _ (by simpa using hk)];exact grow_oth hw.ch hg he hc
 have nm:∀{k:Nat} {cs:Array Value} {e:TypeId} {fr:Nat×Nat},e≠91→(w.alloc (.cells (chL s.num).toArray 188)).heap[k]? =some (.cells cs e fr)→k≠E.M:=fun {k cs e fr} he hk ek=>by
  rw[ek,hw.box]at hk
  cases hk
  exact he rfl
 have hown:w'.ownsRow E.B 188 4 (.slice so (s.ch.length+1) sc) (s.ch.length+1) (rowCh s.ch++chL s.num):=ho
 refine⟨so,sc,w',hr,by rw[hmb,h.box],⟨?_,key (Ne.symm h.ne) (by decide) hw.cnt,?_,own_oth hw.bk fun k cs hc=>key (nm (by decide) hc) (by decide) hc,h.lm,h.lc⟩,?_,?_⟩
 ·rw[set_oneQ hmb];rfl
 ·rw [show ({ s with ch:=s.ch++[s.num] }:XS).ch.length=s.ch.length+1 from by simp,show rowCh ({ s with ch:=s.ch++[s.num] }:XS).ch=rowCh s.ch++chL s.num from by simp[rowCh]]
  refine own_oth hown fun k cs hc=>?_
  rw[Below.heap_setCell _ _ _ _ (by
   show k≠E.M
   intro ek
   rw[ek,hmb]at hc
   cases hc)]
  exact hc
 ·exact(((belR E.B w).alloc h.ltB _).grown hg hw.ltB (fun k hk=>(hw.ch.lt k hk).1)).setCell (p:=⟨E.M,12,none⟩) h.lm _
 ·intro k cs e fr hc a b' c d
  exact key a c (below_at hbl hc)
theorem MX.num(h:MX w E s cv bv)(v:Int):MX (((w.setCell ⟨E.cb,0,none⟩ (.int .i64 v)).setCell ⟨E.cb,1,none⟩ (.int .i64 0)).setCell ⟨E.cb,2,none⟩ (.int .i64 0)) E { s with num:=v } cv bv∧FX E w (((w.setCell ⟨E.cb,0,none⟩ (.int .i64 v)).setCell ⟨E.cb,1,none⟩ (.int .i64 0)).setCell ⟨E.cb,2,none⟩ (.int .i64 0)):=by
 have key:∀{k:Nat} {o:Obj},k≠E.cb→w.heap[k]? =some o→(((w.setCell ⟨E.cb,0,none⟩ (.int .i64 v)).setCell ⟨E.cb,1,none⟩ (.int .i64 0)).setCell ⟨E.cb,2,none⟩ (.int .i64 0)).heap[k]? =some o:=fun {k o} hk ho=>by
  rw[Below.heap_setCell _ _ _ _ (by simpa using hk),Below.heap_setCell _ _ _ _ (by simpa using hk),Below.heap_setCell _ _ _ _ (by simpa using hk)];exact ho
 have nm:∀{k:Nat} {cs:Array Value} {e:TypeId} {fr:Nat×Nat},e≠149→w.heap[k]? =some (.cells cs e fr)→k≠E.cb:=fun {k cs e fr} he hk ek=>by
  rw[ek,h.cnt]at hk
  cases hk
  exact he rfl
 refine⟨⟨key h.ne h.box,?_,own_oth h.ch fun b cs hb=>key (nm (by decide) hb) hb,own_oth h.bk fun b cs hb=>key (nm (by decide) hb) hb,h.lm,h.lc⟩,?_,fun k cs e fr hc a b _ _=>key b hc⟩
 ·rw[set_oneQ (set_oneQ (set_oneQ h.cnt _ _) _ _) _ _];rfl
 ·exact(((belR E.B w).setCell (p:=⟨E.cb,0,none⟩) h.lc _).setCell (p:=⟨E.cb,1,none⟩) h.lc _).setCell (p:=⟨E.cb,2,none⟩) h.lc _
variable {w w' : World} {E : ME} {s s' : XS} {cv bv : Value}
theorem step_run{P:Program}{ops:Array Oper}{o:Oper}{a:Act}{w:World}{K:Act→World→Prop}{Q:Exit→Act→World→Prop}{E:Prop}(hgd:o.guard=none)(s x:Operand)(t:TypeId)
  (ho:o.op=.call { callee:=.builtin .append,args:=#[s,x],argTypes:=#[t,t] }) (v v2 v':Value) (w':World) (hs:a.eval s=v) (hx:a.eval x=v2) (hr:(Builtin.append_ #[t,t] o.type #[v,v2]).run P w=.ok v' w') (h:K (a.put o.dst v') w'):
  if Region.wanted o (yielded ops a.tmps)=true then Oper.wp P o a w K Q else E:=by
 have hw:Region.wanted o (yielded ops a.tmps)=true:=by simp[Region.wanted,hgd]
 rw[if_pos hw]
 unfold Oper.wp execOp
 simp only[ho,resolve,invoke,builtin,Sem.run_bind,Sem.run_pure,Result.andThen_ok,List.map_toArray,List.map_cons,List.map_nil,hs,hx,hr]
 exact h
theorem jumpIf_any(h:MX w E s cv bv)(b:Bool)(to:Int):Calls prog 94 #[.pointer (some ⟨E.M,0,none⟩),.bool b,.int .i64 to] w fun e w'=>e=.returned (.tuple #[])∧MX w' E (if b then { s with next:=to } else s) cv bv∧FX E w w':=by
 obtain⟨c0,c1,c2,c3,c5,c8,c9,c10,c11,c12,c13⟩:=h.rd
 have fz:=h.fr
 have hlt:=h.lt
 cases b with
 |true=>
  have HM:=hide (h.put 8 (.int .i64 to) { s with next:=to } rfl rfl rfl rfl)
  have HF:=hide (FX.set E w h.lm 8 (.int .i64 to))
  clear h
  go_enter func94,ntmps94
  go_wp2
  go_end0
  exact⟨rfl,HM.out,HF.out⟩
 |false=>
  have HM:=hide h
  clear h
  go_enter func94,ntmps94
  go_wp2
  go_end0
  exact⟨rfl,HM.out,FX.refl _ _⟩
variable {w w' : World} {E : ME} {s s' : XS} {cv bv : Value}
theorem lay_any(h:MX w E s cv bv)(nx:Int)(hl:s.bk.length≤1000)(hc:s.ch.length≤1000):Calls prog 88 #[.pointer (some ⟨E.M,0,none⟩),.int .i64 nx] w fun e w'=>e=.returned (.tuple #[])∧(∃bv',MX w' E { s with bk:=s.bk++[(nx,s.pos,(s.ch.length:Int))] } cv bv')∧FX E w w':=by
 have hlt:=h.lt
 obtain⟨so,sc,w6,hap,hmb,hm,hst⟩:=h.drew.appB (nx,s.pos,(s.ch.length:Int)) hl
 obtain⟨co,cc,rfl⟩:=own_shape h.ch
 obtain⟨bo,bc,rfl⟩:=own_shape h.bk
 obtain⟨c0,c1,c2,c3,c5,c8,c9,c10,c11,c12,c13⟩:=h.rd
 obtain⟨n,hn⟩:=named s.bk.length
 obtain⟨m,hmm⟩:=named s.ch.length
 obtain⟨n1,hn1⟩:=named (s.bk.length+1)
 rw[← hn1]at hap hm hst
 have hbb:w6.heap[E.M]? =some (mcO E s (.slice co s.ch.length cc) (.slice bo s.bk.length bc)):=by rw[hmb];exact h.drew.box
 have k13:w6.cell? ⟨E.M,13,none⟩=some (.slice bo n bc):=by rw[hn];simp[World.cell?,hbb]
 have kf:∀o,w6.frozen? ⟨E.M,o,none⟩=false:=by intro o;simp[World.frozen?,hbb]
 have hgk:E.M<w6.heap.size:=lt_of_block hbb
 simp only[bkL]at hap
 rw[← hn]at hap c13
 rw[← hmm]at hap c12
 have ca:∀o,(w.drew.alloc o).cell? ⟨E.M,13,none⟩=some (.slice bo n bc):=fun o=>below_cell ((belR _ w.drew).alloc (leR _) o) hlt c13
 have HAP:=hide hap
 have HM:=hide hm
 have HF:=hide ((FX.of (drew1 w) h.ltB).trans hst)
 have HS:Hid (∃v,w.drew.heap[E.M]? =some (mcO E s (.slice co s.ch.length cc) v)):=⟨_,h.drew.box⟩
 have HS6:Hid (∃v,w6.heap[E.M]? =some (mcO E s (.slice co s.ch.length cc) v)):=⟨_,hbb⟩
 have HSa:Hid (∀o,∃v,(w.drew.alloc o).heap[E.M]? =some (mcO E s (.slice co s.ch.length cc) v)):=fun o=>⟨_,below_at ((belR _ w.drew).alloc (leR _) o) h.drew.box⟩
 have HSf:Hid (∃v,(w6.setCell ⟨E.M,13,none⟩ (.slice so n1 sc)).heap[E.M]? =some (mcO E s (.slice co s.ch.length cc) v)):=⟨_,hm.box⟩
 have HCl:Hid (∀w':World,(∃v,w'.heap[E.M]? =some (mcO E s (.slice co s.ch.length cc) v))→w'.cell? ⟨E.M,1,none⟩=some (.int .i64 s.pos)∧w'.cell? ⟨E.M,10,none⟩=some (.slice none 0 0)∧w'.cell? ⟨E.M,12,none⟩=some (.slice co m cc)):=fun w' ⟨v,hv⟩=>by rw[hmm];refine⟨?_,?_,?_⟩<;>simp[World.cell?,hv]
 clear h hap hm hst hbb hmb hn hn1 hmm
 go_enter func88,ntmps88
 go_upto_region 0 with fail
 refine wp_region_held (S:=fun w'=>∃v,w'.heap[E.M]? =some (mcO E s (.slice co s.ch.length cc) v)) (by kernel_rfl) ?_
 change wpAnyH _ _ _ _ _ _ _ _ (World.drew _)
 refine takeH 0 (.pointer (some ⟨E.M,0,none⟩)) rfl (fun _ _ _ h=>h) HS.out (fun w' hS=>?_) ?_
 ·go_simp
 refine takeH 1 (.pointer (some ⟨E.M,0,none⟩)) rfl (fun _ _ _ h=>h) HS.out (fun w' hS=>?_) ?_
 ·go_simp
 refine takeH 2 (.pointer (some ⟨E.M,0,none⟩)) rfl (fun _ _ _ h=>h) HS.out (fun w' hS=>?_) ?_
 ·go_simp
 refine takeH 3 (.pointer (some ⟨E.M,13,none⟩)) rfl (fun _ _ _ h=>h) HS.out (fun w' hS=>?_) ?_
 ·go_simp
 refine takeH 5 (.int .i64 nx) rfl (fun _ _ _ h=>h) HS.out (fun w' hS=>?_) ?_
 ·go_simp
 refine takeH 6 (.pointer (some ⟨E.M,0,none⟩)) rfl (fun _ _ _ h=>h) HS.out (fun w' hS=>?_) ?_
 ·go_simp
 refine takeH 7 (.pointer (some ⟨E.M,0,none⟩)) rfl (fun _ _ _ h=>h) HS.out (fun w' hS=>?_) ?_
 ·go_simp
 refine takeH 8 (.pointer (some ⟨E.M,0,none⟩)) rfl (fun _ _ _ h=>h) HS.out (fun w' hS=>?_) ?_
 ·go_simp
 refine takeH 9 (.pointer (some ⟨E.M,1,none⟩)) rfl (fun _ _ _ h=>h) HS.out (fun w' hS=>?_) ?_
 ·go_simp
 refine takeH 10 (.int .i64 s.pos) rfl (fun _ _ _ h=>h) HS.out (fun w' hS=>?_) ?_
 ·(obtain⟨y1,y10,y12⟩:=HCl.out w' hS;go_simp)
 refine takeH 11 (.pointer (some ⟨E.M,0,none⟩)) rfl (fun _ _ _ h=>h) HS.out (fun w' hS=>?_) ?_
 ·go_simp
 refine takeH 12 (.pointer (some ⟨E.M,0,none⟩)) rfl (fun _ _ _ h=>h) HS.out (fun w' hS=>?_) ?_
 ·go_simp
 refine takeH 13 (.pointer (some ⟨E.M,9,none⟩)) rfl (fun _ _ _ h=>h) HS.out (fun w' hS=>?_) ?_
 ·go_simp
 refine takeH 14 (.pointer (some ⟨E.M,10,none⟩)) rfl (fun _ _ _ h=>h) HS.out (fun w' hS=>?_) ?_
 ·go_simp
 refine takeH 15 (.slice none 0 0) rfl (fun _ _ _ h=>h) HS.out (fun w' hS=>?_) ?_
 ·(obtain⟨y1,y10,y12⟩:=HCl.out w' hS;go_simp)
 refine takeH 16 (.int .i64 0) rfl (fun _ _ _ h=>h) HS.out (fun w' hS=>?_) ?_
 ·go_simp
 refine takeH 17 (.pointer (some ⟨E.M,0,none⟩)) rfl (fun _ _ _ h=>h) HS.out (fun w' hS=>?_) ?_
 ·go_simp
 refine takeH 18 (.pointer (some ⟨E.M,0,none⟩)) rfl (fun _ _ _ h=>h) HS.out (fun w' hS=>?_) ?_
 ·go_simp
 refine takeH 19 (.pointer (some ⟨E.M,11,none⟩)) rfl (fun _ _ _ h=>h) HS.out (fun w' hS=>?_) ?_
 ·go_simp
 refine takeH 20 (.pointer (some ⟨E.M,12,none⟩)) rfl (fun _ _ _ h=>h) HS.out (fun w' hS=>?_) ?_
 ·go_simp
 refine takeH 21 (.slice co m cc) rfl (fun _ _ _ h=>h) HS.out (fun w' hS=>?_) ?_
 ·(obtain⟨y1,y10,y12⟩:=HCl.out w' hS;go_simp)
 refine takeH 22 (.int .i64 (m:Int)) rfl (fun _ _ _ h=>h) HS.out (fun w' hS=>?_) ?_
 ·go_simp
 refine takeH 23 (.agg #[.int .i64 nx,.int .i64 s.pos,.int .i64 0,.int .i64 (m:Int)]) rfl (fun _ _ _ h=>h) HS.out (fun w' hS=>?_) ?_
 ·go_simp
 refine wpAnyH_ready (rs:=[4,24]) (by kernel_rfl) (by simp) ?_
 refine AllReadyH.cons rfl (fun K hK=>?_) (AllReadyH.cons rfl (fun K hK=>?_) AllReadyH.nil)
 ·go_simp
  refine hK.out _ _ HS.out (fun _=>?_)
  clear hK K
  refine wpAnyH_ready (rs:=[24]) (by kernel_rfl) (by simp) ?_
  refine AllReadyH.cons rfl (fun K hK=>?_) AllReadyH.nil
  go_simp
  refine hK.out _ _ (HSa.out _) (fun _=>?_)
  clear hK K
  refine wpAnyH_ready (rs:=[25]) (by kernel_rfl) (by simp) ?_
  refine AllReadyH.cons rfl (fun K hK=>?_) AllReadyH.nil
  refine step_run rfl _ _ _ rfl _ _ (.slice so n1 sc) w6 (by rfl) (by rfl) HAP.out ?_
  refine hK.out _ _ HS6.out (fun _=>?_)
  clear hK K
  refine takeH 26 (.pointer (some ⟨E.M,0,none⟩)) rfl (fun _ _ _ h=>h) HS6.out (fun w' hS=>?_) ?_
  ·go_simp
  refine takeH 27 (.pointer (some ⟨E.M,13,none⟩)) rfl (fun _ _ _ h=>h) HS6.out (fun w' hS=>?_) ?_
  ·go_simp
  refine wpAnyH_ready (rs:=[28]) (by kernel_rfl) (by simp) ?_
  refine AllReadyH.cons rfl (fun K hK=>?_) AllReadyH.nil
  go_simp
  refine hK.out _ _ HSf.out (fun _=>?_)
  clear hK K
  refine wpAnyH_done (by kernel_rfl) ?_ _
  go_wp2
  go_end0
  exact⟨rfl,⟨_,HM.out⟩,HF.out⟩
 ·go_simp
  refine hK.out _ _ (HSa.out _) (fun _=>?_)
  clear hK K
  refine wpAnyH_ready (rs:=[4]) (by kernel_rfl) (by simp) ?_
  refine AllReadyH.cons rfl (fun K hK=>?_) AllReadyH.nil
  go_simp
  refine hK.out _ _ (HSa.out _) (fun _=>?_)
  clear hK K
  refine wpAnyH_ready (rs:=[25]) (by kernel_rfl) (by simp) ?_
  refine AllReadyH.cons rfl (fun K hK=>?_) AllReadyH.nil
  refine step_run rfl _ _ _ rfl _ _ (.slice so n1 sc) w6 (by rfl) (by rfl) HAP.out ?_
  refine hK.out _ _ HS6.out (fun _=>?_)
  clear hK K
  refine takeH 26 (.pointer (some ⟨E.M,0,none⟩)) rfl (fun _ _ _ h=>h) HS6.out (fun w' hS=>?_) ?_
  ·go_simp
  refine takeH 27 (.pointer (some ⟨E.M,13,none⟩)) rfl (fun _ _ _ h=>h) HS6.out (fun w' hS=>?_) ?_
  ·go_simp
  refine wpAnyH_ready (rs:=[28]) (by kernel_rfl) (by simp) ?_
  refine AllReadyH.cons rfl (fun K hK=>?_) AllReadyH.nil
  go_simp
  refine hK.out _ _ HSf.out (fun _=>?_)
  clear hK K
  refine wpAnyH_done (by kernel_rfl) ?_ _
  go_wp2
  go_end0
  exact⟨rfl,⟨_,HM.out⟩,HF.out⟩
end Go.Proofs.YtfnndcbjklppeaaGreatDoor.Vm
