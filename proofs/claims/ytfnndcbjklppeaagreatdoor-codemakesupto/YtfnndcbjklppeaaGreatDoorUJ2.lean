import Derived.Test.YtfnndcbjklppeaaGreatDoorUB2
import Derived.Test.YtfnndcbjklppeaaGreatDoorUI2
import Derived.Maps.AppendAt
import Derived.LoopN
import Derived.Laws.MakeOwn
import Derived.Laws.IdiomCopy
set_option maxHeartbeats 8000000
set_option linter.unusedVariables false
set_option maxRecDepth 100000
open Go.Proofs.Tryz
namespace Go.Proofs.YtfnndcbjklppeaaGreatDoor.En
open Go.RowKit
structure KE(B0 b:Nat)(w w':World):Prop where
 low:Below B0 w w'
 oth:∀k cs e fr,w.heap[k]? =some (.cells cs e fr)→k≠b→e≠3→w'.heap[k]? =some (.cells cs e fr)
theorem KE.trans{B0 b:Nat}{w w1 w2:World}(h:KE B0 b w w1)(k:KE B0 b w1 w2):KE B0 b w w2:=⟨h.low.trans k.low,fun i cs e fr hc a c=>k.oth i cs e fr (h.oth i cs e fr hc a c) a c⟩
theorem KE.of{B0 b:Nat}{w w':World}(h:Below w.heap.size w w')(hB:B0≤w.heap.size):KE B0 b w w':=⟨h.mono hB,fun k cs e fr hc _ _=>by rw[h.block k (lt_of_block hc)];exact hc⟩
structure BX(w:World)(B0 b:Nat)(v:Value)(l:List Int):Prop where
 box:w.heap[b]? =some (.cells #[v] 44)
 row:w.ownsRow B0 3 1 v l.length (i64s l)
 lo:B0≤b
theorem own_below{B e:Nat}{w w':World}{v:Value}{n k:Nat}{xs:List Value}(h:w.ownsRow B e k v n xs)(hb:Below w.heap.size w w'):w'.ownsRow B e k v n xs:=by
 refine⟨h.1,?_⟩
 rcases h.2 with h2|⟨g,cap,cur,rfl,h3,hg,h4⟩
 ·exact Or.inl h2
 ·exact Or.inr ⟨g,cap,cur,rfl,h3,by rw[hb.block g (Array.getElem?_eq_some_iff.1 hg).1];exact hg,h4⟩
theorem BX.keep{w w':World}{B0 b:Nat}{v:Value}{l:List Int}(h:BX w B0 b v l)(hb:Below w.heap.size w w'):BX w' B0 b v l:=⟨below_at hb h.box,own_below h.row hb,h.lo⟩
theorem wpList_run{P:Program}{ops:Array Oper}{rest:List Oper}{o:Oper}{a:Act}{w:World}{Q:Exit→Act→World→Prop}(hgd:o.guard=none)(s x:Operand)(t:TypeId)
  (ho:o.op=.call { callee:=.builtin .append,args:=#[s,x],argTypes:=#[t,t] }) (v v2 v':Value) (w':World) (hs:a.eval s=v) (hx:a.eval x=v2) (hr:(Builtin.append_ #[t,t] o.type #[v,v2]).run P w=.ok v' w') (h:wpList P ops Q rest (a.put o.dst v') w'):wpList P ops Q (o::rest) a w:=
 wpList_plain hgd fun _ hK=>by
  unfold Oper.wp execOp
  simp only[ho,resolve,invoke,builtin,Sem.run_bind,Sem.run_pure,Result.andThen_ok,List.map_toArray,List.map_cons,List.map_nil,hs,hx,hr]
  exact hK _ _ h
theorem app_int{w:World}{B0:Nat}{v:Value}{l:List Int}(hr:w.ownsRow B0 3 1 v l.length (i64s l))(hB:B0≤w.heap.size)(q:Int)(hl:l.length≤1000):∃so sc w',(Builtin.append_ #[44,44] 44 #[v,.slice (some ⟨w.heap.size,0,none⟩) 1 1]).run prog (w.alloc (.cells #[.int .i64 q] 3))=.ok (.slice so (l.length+1) sc) w'∧w'.ownsRow B0 3 1 (.slice so (l.length+1) sc) (l.length+1) (i64s (l++[q]))∧Below B0 w w'∧(∀(k:Nat) (cs:Array Value) (e:TypeId) (fr:Nat×Nat),w.heap[k]? =some (Obj.cells cs e fr)→e≠3→w'.heap[k]? =some (Obj.cells cs e fr)):=by
 obtain⟨i0,hi,hz0,hz1,hz2⟩:=info_parts info3
 have hbl:Below w.heap.size w (w.alloc (.cells #[.int .i64 q] 3)):=allocB _ _
 have hw:=own_below hr hbl
 obtain⟨v',w',hrun,ho,hg,_,hat⟩:=run_append_own_at (P:=prog) (w.alloc (.cells #[.int .i64 q] 3)) B0 44 44 3 i0 _ 1 8 underlying44 hi hz0 hz1 hz2 rfl (by decide) v l.length (i64s l) hw ⟨w.heap.size,0,none⟩ 1 1 [.int .i64 q] rfl (World.news_of_block (cs:=#[.int .i64 q]) (t:=3) (fr:=(0,0)) (heap_alloc_new w _)) (by intro u hu;simp at hu;rw[hu];rfl) (by unfold maxLen;omega) (by omega) (by have:=hbl.size;omega)
 obtain⟨so,sc,rfl⟩:=own_shape ho
 refine⟨so,sc,w',hrun,?_,?_,?_⟩
 ·rw[show i64s (l++[q])=i64s l++[.int .i64 q]from by simp[i64s]];exact ho
 ·exact((belR B0 w).alloc hB _).grown hg (by have:=hbl.size;omega) (fun k hk=>(hw.lt k hk).1)
 ·intro k cs e fr hc he
  have hc':=below_at hbl hc
  rw[hg.block k (lt_of_block hc') ?_]
  ·exact hc'
  ·intro hx
   rcases hw.2 with⟨rfl,_⟩|⟨b',cap',cur',rfl,_,hb',_⟩
   ·cases hx
   ·have :k=b':=Option.some.inj hx
    subst this
    rw[hb']at hc'
    cases hc'
    exact he rfl
theorem BX.set{w':World}{B0 b:Nat}{v v':Value}{l':List Int}(hb:w'.heap[b]? =some (.cells #[v] 44))(hr:w'.ownsRow B0 3 1 v' l'.length (i64s l'))(hl:B0≤b):BX (w'.setCell ⟨b,0,none⟩ v') B0 b v' l':=by
 refine⟨by rw[set_oneQ hb];rfl,?_,hl⟩
 refine⟨hr.1,?_⟩
 rcases hr.2 with h2|⟨g,cap,cur,h1,h3,hg,h4⟩
 ·exact .inl h2
 ·refine .inr ⟨g,cap,cur,h1,h3,?_,h4⟩
  rw[Below.heap_setCell _ _ _ _ (by
   show g≠b
   rintro rfl
   rw[hb]at hg
   cases hg)]
  exact hg
theorem clo_dec{w:World}{B0 b:Nat}{v:Value}{l:List Int}(h:BX w B0 b v l)(p a:Int)(hl:l.length≤1000):Calls prog 82 #[.int .i64 p,.int .i64 a,.pointer (some ⟨b,0,none⟩)] w fun e w'=>e=.returned (.tuple #[])∧(∃v',BX w' B0 b v' (l++[p]))∧KE B0 b w w':=by
 have hlt:=lt_of_block h.box
 obtain⟨so,sc,w6,hap,hrow,hlow,hoth⟩:=app_int h.row (by have:=h.lo;omega) p hl
 obtain⟨vo,vc,rfl⟩:=own_shape h.row
 obtain⟨n,hn⟩:=named l.length
 have hb6:=hoth _ _ _ _ h.box (by decide)
 have c0:w.cell? ⟨b,0,none⟩=some (.slice vo n vc):=by rw[hn];simp[World.cell?,h.box]
 have k0:w6.cell? ⟨b,0,none⟩=some (.slice vo n vc):=by rw[hn];simp[World.cell?,hb6]
 have kf:∀o,w6.frozen? ⟨b,o,none⟩=false:=fun o=>by simp[World.frozen?,hb6]
 have hl6:=lt_of_block hb6
 obtain⟨W,hW⟩:=named (w.alloc (.cells #[.int .i64 p] 3))
 rw[← hn]at hap hrow
 rw[← hW]at hap
 have HB:Hid (BX (w6.setCell ⟨b,0,none⟩ (.slice so (n+1) sc)) B0 b (.slice so (n+1) sc) (l++[p])):=BX.set hb6 (by rw[show (l++[p]).length=n+1 from by simp[hn]];exact hrow) h.lo
 have HK:Hid (KE B0 b w (w6.setCell ⟨b,0,none⟩ (.slice so (n+1) sc))):=⟨hlow.setCell (p:=⟨b,0,none⟩) h.lo _,fun k cs e fr hc h1 h2=>by rw[Below.heap_setCell _ _ _ _ (by simpa using h1)];exact hoth k cs e fr hc h2⟩
 have HAP:=hide hap
 clear h hap hrow hlow hoth hb6 hn
 go_enter func82,ntmps82
 go_wp2_with (rw[← hW];at_builtin;refine wpList_run rfl _ _ _ rfl _ _ (.slice so (n+1) sc) w6 (by rfl) (by rfl) HAP.out ?_)
 go_end0
 exact⟨rfl,⟨_,HB.out⟩,HK.out⟩
theorem clo_sta{w:World}{B0 b:Nat}{v:Value}{l:List Int}(h:BX w B0 b v l)(p a:Int)(hl:l.length≤1000):Calls prog 83 #[.int .i64 p,.int .i64 a,.pointer (some ⟨b,0,none⟩)] w fun e w'=>e=.returned (.tuple #[])∧(∃v',BX w' B0 b v' (l++[a]))∧KE B0 b w w':=by
 have hlt:=lt_of_block h.box
 obtain⟨so,sc,w6,hap,hrow,hlow,hoth⟩:=app_int h.row (by have:=h.lo;omega) a hl
 obtain⟨vo,vc,rfl⟩:=own_shape h.row
 obtain⟨n,hn⟩:=named l.length
 have hb6:=hoth _ _ _ _ h.box (by decide)
 have c0:w.cell? ⟨b,0,none⟩=some (.slice vo n vc):=by rw[hn];simp[World.cell?,h.box]
 have k0:w6.cell? ⟨b,0,none⟩=some (.slice vo n vc):=by rw[hn];simp[World.cell?,hb6]
 have kf:∀o,w6.frozen? ⟨b,o,none⟩=false:=fun o=>by simp[World.frozen?,hb6]
 have hl6:=lt_of_block hb6
 obtain⟨W,hW⟩:=named (w.alloc (.cells #[.int .i64 a] 3))
 rw[← hn]at hap hrow
 rw[← hW]at hap
 have HB:Hid (BX (w6.setCell ⟨b,0,none⟩ (.slice so (n+1) sc)) B0 b (.slice so (n+1) sc) (l++[a])):=BX.set hb6 (by rw[show (l++[a]).length=n+1 from by simp[hn]];exact hrow) h.lo
 have HK:Hid (KE B0 b w (w6.setCell ⟨b,0,none⟩ (.slice so (n+1) sc))):=⟨hlow.setCell (p:=⟨b,0,none⟩) h.lo _,fun k cs e fr hc h1 h2=>by rw[Below.heap_setCell _ _ _ _ (by simpa using h1)];exact hoth k cs e fr hc h2⟩
 have HAP:=hide hap
 clear h hap hrow hlow hoth hb6 hn
 go_enter func83,ntmps83
 go_wp2_with (rw[← hW];at_builtin;refine wpList_run rfl _ _ _ rfl _ _ (.slice so (n+1) sc) w6 (by rfl) (by rfl) HAP.out ?_)
 go_end0
 exact⟨rfl,⟨_,HB.out⟩,HK.out⟩
theorem encOf4(w:World):Calls prog 128 #[.int .i64 4] w fun e w'=>e=.returned (.tuple #[.iface 211 (.agg #[]),.bool true])∧w'=w:=by
 go_enter func128,ntmps128
 go_wp2
 go_ret2
 exact⟨rfl,rfl⟩
abbrev aab:ByteArray:=⟨#[97,97,98]⟩
theorem read_0(w:World):Calls prog 249 #[.agg #[],.string aab,.int .i64 0] w fun e w'=>e=.returned (.tuple #[.int .i64 97,.int .i64 1])∧Below w.heap.size w w':=by
 have hB:Hid (Below w.heap.size w (w.alloc (.cells #[] 211))):=allocB _ _
 go_enter func249,ntmps249
 go_wp2
 go_ret2
 exact⟨by first|rfl|kernel_rfl|(simp;decide)|simp,hB.out⟩
theorem read_1(w:World):Calls prog 249 #[.agg #[],.string aab,.int .i64 1] w fun e w'=>e=.returned (.tuple #[.int .i64 97,.int .i64 1])∧Below w.heap.size w w':=by
 have hB:Hid (Below w.heap.size w (w.alloc (.cells #[] 211))):=allocB _ _
 go_enter func249,ntmps249
 go_wp2
 go_ret2
 exact⟨by first|rfl|kernel_rfl|(simp;decide)|simp,hB.out⟩
theorem read_2(w:World):Calls prog 249 #[.agg #[],.string aab,.int .i64 2] w fun e w'=>e=.returned (.tuple #[.int .i64 98,.int .i64 1])∧Below w.heap.size w w':=by
 have hB:Hid (Below w.heap.size w (w.alloc (.cells #[] 211))):=allocB _ _
 go_enter func249,ntmps249
 go_wp2
 go_ret2
 exact⟨by first|rfl|kernel_rfl|(simp;decide)|simp,hB.out⟩
abbrev fltO:Obj:=.cells #[.int .i64 0,.int .i64 0] 41
theorem ret_flt{f:Func}{tmps:Array Value}{W:World}{M a:Nat}{R:Ending→World→Prop}(hres:f.results=#[ResultVar.cell a 41])(h3:tmps[a]? =some (.pointer (some ⟨M,0,none⟩)))(hV:W.heap[M]? =some fltO)(hF:R (.returned (.agg #[.int .i64 0,.int .i64 0])) W):
  bodyPost prog f R Exit.ret { tmps:=tmps,defers:=[] } W:=by
 have q0:W.cell? ⟨M,0,none⟩=some (.int .i64 0):=by simp[World.cell?,hV]
 have q1:W.cell? ⟨M,1,none⟩=some (.int .i64 0):=by simp[World.cell?,hV]
 refine bodyPost_ret (v:=.agg #[.int .i64 0,.int .i64 0]) ?_ rfl hF
 simp[results,hres,go_sem,h3,q0,q1]
theorem ret_flt2{f:Func}{tmps:Array Value}{W:World}{M s a:Nat}{v:Value}{R:Ending→World→Prop}(hres:f.results=#[ResultVar.tmp s,ResultVar.cell a 41])(h2:tmps[s]? =some v)(h3:tmps[a]? =some (.pointer (some ⟨M,0,none⟩)))(hV:W.heap[M]? =some fltO)(hF:R (.returned (.tuple #[v,.agg #[.int .i64 0,.int .i64 0]])) W):
  bodyPost prog f R Exit.ret { tmps:=tmps,defers:=[] } W:=by
 have q0:W.cell? ⟨M,0,none⟩=some (.int .i64 0):=by simp[World.cell?,hV]
 have q1:W.cell? ⟨M,1,none⟩=some (.int .i64 0):=by simp[World.cell?,hV]
 refine bodyPost_ret (v:=.tuple #[v,.agg #[.int .i64 0,.int .i64 0]]) ?_ rfl hF
 simp[results,hres,go_sem,h2,h3,q0,q1]
abbrev fS(W:World)(N:Nat):World:=(W.setCell ⟨N,0,none⟩ (.int .i64 0)).setCell ⟨N,1,none⟩ (.int .i64 0)
theorem fS_at{W:World}{N:Nat}(h:W.heap[N]? =some fltO):(fS W N).heap[N]? =some fltO:=by
 unfold fS
 rw[set_oneQ (set_oneQ h _ _) _ _]
 simp
theorem fS_keep{W:World}{N b:Nat}(h:b≠N):(fS W N).heap[b]? =W.heap[b]? :=by
 unfold fS
 have e:∀(W:World) (o:Nat) (v:Value),(W.setCell ⟨N,o,none⟩ v).heap[b]? =W.heap[b]? :=fun W o v=>Below.heap_setCell _ _ _ _ (by simpa using h)
 rw[e,e]
theorem BX.fS{W:World}{B0 b N:Nat}{v:Value}{l:List Int}(h:BX W B0 b v l)(hN:W.heap[N]? =some fltO):BX (fS W N) B0 b v l:=by
 have key:∀{k:Nat} {cs:Array Value} {e:TypeId} {fr:Nat×Nat},e≠41→W.heap[k]? =some (Obj.cells cs e fr)→(En.fS W N).heap[k]? =some (Obj.cells cs e fr):=fun {k cs e fr} he hk=>by
  rw[fS_keep]
  ·exact hk
  ·rintro rfl
   rw[hN]at hk
   cases hk
   exact he rfl
 refine⟨key (by decide) h.box,⟨h.row.1,?_⟩,h.lo⟩
 rcases h.row.2 with h2|⟨g,cap,cur,h1,h3,hg,h4⟩
 ·exact .inl h2
 ·exact .inr ⟨g,cap,cur,h1,h3,key (by decide) hg,h4⟩
theorem enters_walk_dec(args:Array Value)(w:World):(callFunc 82 args).run prog w=.ok (.enter 82 args) w:=by first|rfl|kernel_rfl
theorem walk_dec(B0 b:Nat)(w:World)(h:BX w B0 b (.slice none 0 0) []):Calls prog 81 #[.int .i64 4,.string aab,.func (.func 82) #[] #[.pointer (some ⟨b,0,none⟩)]] w fun e w'=>e=.returned (.agg #[.int .i64 0,.int .i64 0])∧(∃v',BX w' B0 b v' [97,97,98])∧KE B0 b w w':=by
 have eg:=enters_walk_dec
 have hlt:=lt_of_block h.box
 have hB0:B0≤w.heap.size:=by have:=h.lo;omega
 obtain⟨w1,hw1⟩:=named (w.alloc fltO)
 have hb1:Below w.heap.size w w1:=by rw[hw1];exact allocB _ _
 have hx1:w1.heap[w.heap.size]? =some fltO:=by rw[hw1];exact at_new _ _
 obtain⟨fb,hfb⟩:=named w.heap.size
 rw[← hfb]at hx1
 have hfb':fb≠b:=by omega
 have HFB:=hide hfb
 have HB0:=hide (h.keep hb1)
 have HX0:=hide hx1
 have HK0:=hide (KE.of (b:=b) hb1 hB0)
 have HE:=hide (encOf4 w1)
 simp only[fltO]at hw1
 clear h hb1 hx1
 go_enter func81,ntmps81
 go_upto_region 1 with fail
 rw[← hw1, ←hfb]
 clear hw1 hfb
 go_wp2_with fail
 refine HE.out.mono ?_
 rintro e w' ⟨rfl,hw'⟩
 have hw'':=hw'.symm
 subst hw''
 clear HE
 go_wp2
 refine wp_loop_rounds 4 ?_
 rw[rounds_succ]
 have HR:=hide (read_0 w1)
 go_wp2_with fail
 refine HR.out.mono ?_
 rintro e u2 ⟨rfl,hbu⟩
 have hBu:=HB0.out.keep hbu
 have HC:=hide (clo_dec hBu 97 0 (by decide))
 have HXu:=hide (below_at hbu HX0.out)
 have HKu:=hide (HK0.out.trans (KE.of hbu (Nat.le_trans hB0 HK0.out.low.size)))
 clear HR hbu hBu HB0 HX0 HK0
 go_wp2_with fail
 refine HC.out.mono ?_
 rintro e w2 ⟨rfl,⟨v2,hB⟩,hK⟩
 have hB:BX w2 B0 b v2 [97]:=hB
 have HB1:=hide hB
 have HX1:=hide (hK.oth _ _ _ _ HXu.out hfb' (by decide))
 have HK1:=hide (HKu.out.trans hK)
 clear HC hB hK HXu HKu
 go_wp2
 rw[rounds_succ]
 have HR:=hide (read_1 w2)
 go_wp2_with fail
 refine HR.out.mono ?_
 rintro e u3 ⟨rfl,hbu⟩
 have hBu:=HB1.out.keep hbu
 have HC:=hide (clo_dec hBu 97 1 (by decide))
 have HXu:=hide (below_at hbu HX1.out)
 have HKu:=hide (HK1.out.trans (KE.of hbu (Nat.le_trans hB0 HK1.out.low.size)))
 clear HR hbu hBu HB1 HX1 HK1
 go_wp2_with fail
 refine HC.out.mono ?_
 rintro e w3 ⟨rfl,⟨v3,hB⟩,hK⟩
 have hB:BX w3 B0 b v3 [97,97]:=hB
 have HB2:=hide hB
 have HX2:=hide (hK.oth _ _ _ _ HXu.out hfb' (by decide))
 have HK2:=hide (HKu.out.trans hK)
 clear HC hB hK HXu HKu
 go_wp2
 rw[rounds_succ]
 have HR:=hide (read_2 w3)
 go_wp2_with fail
 refine HR.out.mono ?_
 rintro e u4 ⟨rfl,hbu⟩
 have hBu:=HB2.out.keep hbu
 have HC:=hide (clo_dec hBu 98 2 (by decide))
 have HXu:=hide (below_at hbu HX2.out)
 have HKu:=hide (HK2.out.trans (KE.of hbu (Nat.le_trans hB0 HK2.out.low.size)))
 clear HR hbu hBu HB2 HX2 HK2
 go_wp2_with fail
 refine HC.out.mono ?_
 rintro e w4 ⟨rfl,⟨v4,hB⟩,hK⟩
 have hB:BX w4 B0 b v4 [97,97,98]:=hB
 have HB3:=hide hB
 have HX3:=hide (hK.oth _ _ _ _ HXu.out hfb' (by decide))
 have HK3:=hide (HKu.out.trans hK)
 clear HC hB hK HXu HKu
 go_wp2
 rw[rounds_succ]
 have x0:w4.cell? ⟨fb,0,none⟩=some (.int .i64 0):=by simp[World.cell?,HX3.out]
 have x1:w4.cell? ⟨fb,1,none⟩=some (.int .i64 0):=by simp[World.cell?,HX3.out]
 have xf:∀o,w4.frozen? ⟨fb,o,none⟩=false:=fun o=>by simp[World.frozen?,HX3.out]
 have HZ:=hide (fS_at HX3.out)
 have HBf:=hide (HB3.out.fS HX3.out)
 have HKf:Hid (KE B0 b w (fS w4 fb)):=⟨(HK3.out.low.setCell (p:=⟨fb,0,none⟩) (show B0≤fb by have:=HFB.out;omega) _).setCell (p:=⟨fb,1,none⟩) (show B0≤fb by have:=HFB.out;omega) _,fun k cs e fr hc h1 h2=>by rw[fS_keep (by have:=lt_of_block hc;have:=HFB.out;omega)];exact HK3.out.oth k cs e fr hc h1 h2⟩
 go_wp2
 exact ret_flt rfl rfl HZ.out ⟨rfl,⟨_,HBf.out⟩,HKf.out⟩
theorem enters_walk_sta(args:Array Value)(w:World):(callFunc 83 args).run prog w=.ok (.enter 83 args) w:=by first|rfl|kernel_rfl
theorem walk_sta(B0 b:Nat)(w:World)(h:BX w B0 b (.slice none 0 0) []):Calls prog 81 #[.int .i64 4,.string aab,.func (.func 83) #[] #[.pointer (some ⟨b,0,none⟩)]] w fun e w'=>e=.returned (.agg #[.int .i64 0,.int .i64 0])∧(∃v',BX w' B0 b v' [0,1,2])∧KE B0 b w w':=by
 have eg:=enters_walk_sta
 have hlt:=lt_of_block h.box
 have hB0:B0≤w.heap.size:=by have:=h.lo;omega
 obtain⟨w1,hw1⟩:=named (w.alloc fltO)
 have hb1:Below w.heap.size w w1:=by rw[hw1];exact allocB _ _
 have hx1:w1.heap[w.heap.size]? =some fltO:=by rw[hw1];exact at_new _ _
 obtain⟨fb,hfb⟩:=named w.heap.size
 rw[← hfb]at hx1
 have hfb':fb≠b:=by omega
 have HFB:=hide hfb
 have HB0:=hide (h.keep hb1)
 have HX0:=hide hx1
 have HK0:=hide (KE.of (b:=b) hb1 hB0)
 have HE:=hide (encOf4 w1)
 simp only[fltO]at hw1
 clear h hb1 hx1
 go_enter func81,ntmps81
 go_upto_region 1 with fail
 rw[← hw1, ←hfb]
 clear hw1 hfb
 go_wp2_with fail
 refine HE.out.mono ?_
 rintro e w' ⟨rfl,hw'⟩
 have hw'':=hw'.symm
 subst hw''
 clear HE
 go_wp2
 refine wp_loop_rounds 4 ?_
 rw[rounds_succ]
 have HR:=hide (read_0 w1)
 go_wp2_with fail
 refine HR.out.mono ?_
 rintro e u2 ⟨rfl,hbu⟩
 have hBu:=HB0.out.keep hbu
 have HC:=hide (clo_sta hBu 97 0 (by decide))
 have HXu:=hide (below_at hbu HX0.out)
 have HKu:=hide (HK0.out.trans (KE.of hbu (Nat.le_trans hB0 HK0.out.low.size)))
 clear HR hbu hBu HB0 HX0 HK0
 go_wp2_with fail
 refine HC.out.mono ?_
 rintro e w2 ⟨rfl,⟨v2,hB⟩,hK⟩
 have hB:BX w2 B0 b v2 [0]:=hB
 have HB1:=hide hB
 have HX1:=hide (hK.oth _ _ _ _ HXu.out hfb' (by decide))
 have HK1:=hide (HKu.out.trans hK)
 clear HC hB hK HXu HKu
 go_wp2
 rw[rounds_succ]
 have HR:=hide (read_1 w2)
 go_wp2_with fail
 refine HR.out.mono ?_
 rintro e u3 ⟨rfl,hbu⟩
 have hBu:=HB1.out.keep hbu
 have HC:=hide (clo_sta hBu 97 1 (by decide))
 have HXu:=hide (below_at hbu HX1.out)
 have HKu:=hide (HK1.out.trans (KE.of hbu (Nat.le_trans hB0 HK1.out.low.size)))
 clear HR hbu hBu HB1 HX1 HK1
 go_wp2_with fail
 refine HC.out.mono ?_
 rintro e w3 ⟨rfl,⟨v3,hB⟩,hK⟩
 have hB:BX w3 B0 b v3 [0,1]:=hB
 have HB2:=hide hB
 have HX2:=hide (hK.oth _ _ _ _ HXu.out hfb' (by decide))
 have HK2:=hide (HKu.out.trans hK)
 clear HC hB hK HXu HKu
 go_wp2
 rw[rounds_succ]
 have HR:=hide (read_2 w3)
 go_wp2_with fail
 refine HR.out.mono ?_
 rintro e u4 ⟨rfl,hbu⟩
 have hBu:=HB2.out.keep hbu
 have HC:=hide (clo_sta hBu 98 2 (by decide))
 have HXu:=hide (below_at hbu HX2.out)
 have HKu:=hide (HK2.out.trans (KE.of hbu (Nat.le_trans hB0 HK2.out.low.size)))
 clear HR hbu hBu HB2 HX2 HK2
 go_wp2_with fail
 refine HC.out.mono ?_
 rintro e w4 ⟨rfl,⟨v4,hB⟩,hK⟩
 have hB:BX w4 B0 b v4 [0,1,2]:=hB
 have HB3:=hide hB
 have HX3:=hide (hK.oth _ _ _ _ HXu.out hfb' (by decide))
 have HK3:=hide (HKu.out.trans hK)
 clear HC hB hK HXu HKu
 go_wp2
 rw[rounds_succ]
 have x0:w4.cell? ⟨fb,0,none⟩=some (.int .i64 0):=by simp[World.cell?,HX3.out]
 have x1:w4.cell? ⟨fb,1,none⟩=some (.int .i64 0):=by simp[World.cell?,HX3.out]
 have xf:∀o,w4.frozen? ⟨fb,o,none⟩=false:=fun o=>by simp[World.frozen?,HX3.out]
 have HZ:=hide (fS_at HX3.out)
 have HBf:=hide (HB3.out.fS HX3.out)
 have HKf:Hid (KE B0 b w (fS w4 fb)):=⟨(HK3.out.low.setCell (p:=⟨fb,0,none⟩) (show B0≤fb by have:=HFB.out;omega) _).setCell (p:=⟨fb,1,none⟩) (show B0≤fb by have:=HFB.out;omega) _,fun k cs e fr hc h1 h2=>by rw[fS_keep (by have:=lt_of_block hc;have:=HFB.out;omega)];exact HK3.out.oth k cs e fr hc h1 h2⟩
 go_wp2
 exact ret_flt rfl rfl HZ.out ⟨rfl,⟨_,HBf.out⟩,HKf.out⟩
theorem row_fS{W:World}{B0 N n:Nat}{v:Value}{l:List Int}(h:W.ownsRow B0 3 1 v n (i64s l))(hN:W.heap[N]? =some fltO):(fS W N).ownsRow B0 3 1 v n (i64s l):=by
 refine⟨h.1,?_⟩
 rcases h.2 with h2|⟨g,cap,cur,h1,h3,hg,h4⟩
 ·exact .inl h2
 ·refine .inr ⟨g,cap,cur,h1,h3,?_,h4⟩
  rw[fS_keep]
  ·exact hg
  ·rintro rfl
   rw[hN]at hg
   cases hg
theorem dec_aab(w:World):Calls prog 52 #[.int .i64 4,.string aab] w fun e w'=>∃v,e=.returned (.tuple #[v,.agg #[.int .i64 0,.int .i64 0]])∧w'.ownsRow w.heap.size 3 1 v 3 (i64s [97,97,98])∧Below w.heap.size w w':=by
 obtain⟨N,hN⟩:=named w.heap.size
 obtain⟨w1,hw1⟩:=named ((w.alloc fltO).alloc (.cells #[.slice none 0 0] 44))
 have hb1:Below w.heap.size w w1:=by rw[hw1];exact two_below _ _ _
 have hf1:w1.heap[N]? =some fltO:=by rw[hw1,hN];exact at_old (at_new _ _)
 have hx1:w1.heap[N+1]? =some (.cells #[.slice none 0 0] 44):=by rw[hw1,hN];exact at_new' _ _ (by simp)
 have HC:=hide (walk_dec N (N+1) w1 ⟨hx1,World.ownsRow_nil _ _ _ _,by omega⟩)
 have HF1:=hide hf1
 have HN:=hide hN
 have HB1:Hid (Below N w w1):=by show Below N w w1;rw[hN];exact hb1
 rw[← hN]
 simp only[fltO]at hw1
 clear hb1 hf1 hx1
 go_enter func52,ntmps52
 go_upto_region 2 with fail
 rw[← hw1, ←hN]
 clear hw1 hN
 go_wp2_with fail
 refine HC.out.mono ?_
 rintro e w2 ⟨rfl,⟨v2,hB⟩,hK⟩
 have hf2:=hK.oth _ _ _ _ HF1.out (by omega) (by decide)
 obtain⟨vo,vc,hv2⟩:=own_shape hB.row
 rw[hv2]at hB
 clear hv2
 have hl2:([97,97,98]:List Int).length=3:=rfl
 rw[hl2]at hB
 clear hl2
 obtain⟨w3,hw3⟩:=named (w2.alloc fltO)
 have hb3:Below w2.heap.size w2 w3:=by rw[hw3];exact allocB _ _
 have hB3:=hB.keep hb3
 have hf3:=below_at hb3 hf2
 have hg3:w3.heap[w2.heap.size]? =some fltO:=by rw[hw3];exact at_new _ _
 obtain⟨gb,hgb⟩:=named w2.heap.size
 rw[← hgb]at hg3
 have hlow3:Below N w w3:=(HB1.out.trans hK.low).trans (hb3.mono (by have:=lt_of_block hf2;omega))
 have g0:w3.cell? ⟨gb,0,none⟩=some (.int .i64 0):=by simp[World.cell?,hg3]
 have p0:w3.cell? ⟨N+1,0,none⟩=some (.slice vo 3 vc):=by simp[World.cell?,hB3.box]
 have x0:w3.cell? ⟨N,0,none⟩=some (.int .i64 0):=by simp[World.cell?,hf3]
 have x1:w3.cell? ⟨N,1,none⟩=some (.int .i64 0):=by simp[World.cell?,hf3]
 have xf:∀o,w3.frozen? ⟨N,o,none⟩=false:=fun o=>by simp[World.frozen?,hf3]
 have HZ:=hide (fS_at hf3)
 have HR:=hide (row_fS hB3.row hf3)
 have HL:Hid (Below N w (fS w3 N)):=(hlow3.setCell (p:=⟨N,0,none⟩) (Nat.le_refl N) _).setCell (p:=⟨N,1,none⟩) (Nat.le_refl N) _
 have hlN:=lt_of_block hf3
 simp only[fltO]at hw3
 clear HC hB hK hf2 hb3 hB3 hf3 hg3 hlow3
 go_upto_region 3 with fail
 rw[← hw3, ←hgb]
 clear hw3 hgb
 go_wp2
 exact ret_flt2 rfl rfl rfl HZ.out ⟨_,rfl,HR.out,HL.out⟩
theorem sta_aab(w:World):Calls prog 53 #[.int .i64 4,.string aab] w fun e w'=>∃v,e=.returned (.tuple #[v,.agg #[.int .i64 0,.int .i64 0]])∧w'.ownsRow w.heap.size 3 1 v 4 (i64s [0,1,2,3])∧Below w.heap.size w w':=by
 obtain⟨N,hN⟩:=named w.heap.size
 obtain⟨w1,hw1⟩:=named ((w.alloc fltO).alloc (.cells #[.slice none 0 0] 44))
 have hb1:Below w.heap.size w w1:=by rw[hw1];exact two_below _ _ _
 have hf1:w1.heap[N]? =some fltO:=by rw[hw1,hN];exact at_old (at_new _ _)
 have hx1:w1.heap[N+1]? =some (.cells #[.slice none 0 0] 44):=by rw[hw1,hN];exact at_new' _ _ (by simp)
 have HC:=hide (walk_sta N (N+1) w1 ⟨hx1,World.ownsRow_nil _ _ _ _,by omega⟩)
 have HF1:=hide hf1
 have HN:=hide hN
 have HB1:Hid (Below N w w1):=by show Below N w w1;rw[hN];exact hb1
 rw[← hN]
 simp only[fltO]at hw1
 clear hb1 hf1 hx1
 go_enter func53,ntmps53
 go_upto_region 2 with fail
 rw[← hw1, ←hN]
 clear hw1 hN
 go_wp2_with fail
 refine HC.out.mono ?_
 rintro e w2 ⟨rfl,⟨v2,hB⟩,hK⟩
 have hf2:=hK.oth _ _ _ _ HF1.out (by omega) (by decide)
 obtain⟨vo,vc,hv2⟩:=own_shape hB.row
 rw[hv2]at hB
 clear hv2
 have hl2:([0,1,2]:List Int).length=3:=rfl
 rw[hl2]at hB
 clear hl2
 obtain⟨w3,hw3⟩:=named (w2.alloc fltO)
 have hb3:Below w2.heap.size w2 w3:=by rw[hw3];exact allocB _ _
 have hB3:=hB.keep hb3
 have hf3:=below_at hb3 hf2
 have hg3:w3.heap[w2.heap.size]? =some fltO:=by rw[hw3];exact at_new _ _
 obtain⟨gb,hgb⟩:=named w2.heap.size
 rw[← hgb]at hg3
 have hlow3:Below N w w3:=(HB1.out.trans hK.low).trans (hb3.mono (by have:=lt_of_block hf2;omega))
 have g0:w3.cell? ⟨gb,0,none⟩=some (.int .i64 0):=by simp[World.cell?,hg3]
 have p0:w3.cell? ⟨N+1,0,none⟩=some (.slice vo 3 vc):=by simp[World.cell?,hB3.box]
 obtain⟨so,sc,w6,hap,hrow,hlow,hoth⟩:=app_int (l:=[0,1,2]) hB3.row (by have:=lt_of_block hf3;omega) 3 (by decide)
 have hap:(Builtin.append_ #[44,44] 44 #[.slice vo 3 vc,.slice (some ⟨w3.heap.size,0,none⟩) 1 1]).run prog (w3.alloc (.cells #[.int .i64 3] 3))=.ok (.slice so 4 sc) w6:=hap
 have hrow:w6.ownsRow N 3 1 (.slice so 4 sc) 4 (i64s [0,1,2,3]):=hrow
 have hf6:=hoth _ _ _ _ hf3 (by decide)
 have x0:w6.cell? ⟨N,0,none⟩=some (.int .i64 0):=by simp[World.cell?,hf6]
 have x1:w6.cell? ⟨N,1,none⟩=some (.int .i64 0):=by simp[World.cell?,hf6]
 have xf:∀o,w6.frozen? ⟨N,o,none⟩=false:=fun o=>by simp[World.frozen?,hf6]
 have HZ:=hide (fS_at hf6)
 have HR:=hide (row_fS hrow hf6)
 have HL:Hid (Below N w (fS w6 N)):=((hlow3.trans hlow).setCell (p:=⟨N,0,none⟩) (Nat.le_refl N) _).setCell (p:=⟨N,1,none⟩) (Nat.le_refl N) _
 have hlN:=lt_of_block hf6
 obtain⟨W5,hW5⟩:=named (w3.alloc (.cells #[.int .i64 3] 3))
 rw[← hW5]at hap
 have HAP:=hide hap
 simp only[fltO]at hw3
 clear HC hB hK hf2 hb3 hB3 hf3 hg3 hlow3 hap hrow hlow hoth hf6
 go_upto_region 3 with fail
 rw[← hw3, ←hgb]
 clear hw3 hgb
 go_wp2_with (rw[← hW5];at_builtin;refine wpList_run rfl _ _ _ rfl _ _ (.slice so 4 sc) w6 (by rfl) (by rfl) HAP.out ?_)
 exact ret_flt2 rfl rfl rfl HZ.out ⟨_,rfl,HR.out,HL.out⟩
theorem nan2(x:Int)(w:World):Calls prog 129 #[.int .i64 x] w fun e w'=>e=.returned (.bool false)∧w'=w:=by
 go_enter func129,ntmps129
 go_wp2
 go_ret
 exact⟨rfl,rfl⟩
theorem less_int(x y:Int)(hxy:¬x<y)(w:World):Calls prog 84 #[.int .i64 x,.int .i64 y] w fun e w'=>e=.returned (.bool false)∧w'=w:=by
 have HN:=hide (fun x=>nan2 x w)
 go_enter func84,ntmps84
 go_wp2_with fail
 refine(HN.out x).mono ?_
 rintro e w' ⟨rfl,hw'⟩
 have hw'':=hw'.symm
 subst hw''
 go_wp2
 go_ret
 exact⟨by simp[hxy],rfl⟩
theorem bs_0(g c:Nat)(w:World)(c0:w.cell? ⟨g,0,none⟩=some (.int .i64 0))(c1:w.cell? ⟨g,1,none⟩=some (.int .i64 1))(c2:w.cell? ⟨g,2,none⟩=some (.int .i64 2)):Calls prog 54 #[.slice (some ⟨g,0,none⟩) 4 c,.int .i64 0] w fun e w'=>e=.returned (.tuple #[.int .i64 0,.bool true])∧w'=w:=by
 have HL:=hide (fun x h=>less_int x 0 h w)
 go_enter func54,ntmps54
 go_wp2
 refine wp_loop_rounds 4 ?_
 rw[rounds_succ]
 go_wp2_with fail
 refine(HL.out 2 (by decide)).mono ?_
 rintro e w' ⟨rfl,hw'⟩
 have hw'':=hw'.symm
 subst hw''
 go_wp2
 rw[rounds_succ]
 go_wp2_with fail
 refine(HL.out 1 (by decide)).mono ?_
 rintro e w' ⟨rfl,hw'⟩
 have hw'':=hw'.symm
 subst hw''
 go_wp2
 rw[rounds_succ]
 go_wp2_with fail
 refine(HL.out 0 (by decide)).mono ?_
 rintro e w' ⟨rfl,hw'⟩
 have hw'':=hw'.symm
 subst hw''
 go_wp2
 rw[rounds_succ]
 go_wp2
 go_ret2
 exact⟨rfl,rfl⟩
abbrev wkO(p:Value)(a f:Int)(s:Value):Obj:=.cells #[p,.int .i64 a,.int .i64 f,s,.slice none 0 0] 74
abbrev wkV(p:Value)(a f:Int)(s:Value):Value:=.agg #[p,.int .i64 a,.int .i64 f,s,.slice none 0 0]
theorem wk_cells{w:World}{k:Nat}{p s:Value}{a f:Int}(h:w.heap[k]? =some (wkO p a f s)):w.cell? ⟨k,0,none⟩=some p∧w.cell? ⟨k,1,none⟩=some (.int .i64 a)∧w.cell? ⟨k,2,none⟩=some (.int .i64 f)∧w.cell? ⟨k,3,none⟩=some s∧w.cell? ⟨k,4,none⟩=some (.slice none 0 0):=by
 refine⟨?_,?_,?_,?_,?_⟩<;>simp[World.cell?,h]
theorem ret_wk{f:Func}{tmps:Array Value}{W:World}{N s a:Nat}{p q:Value}{x y z:Int}{R:Ending→World→Prop}(hres:f.results=#[ResultVar.cell s 74,ResultVar.tmp a])(h2:tmps[s]? =some (.pointer (some ⟨N,0,none⟩)))(h3:tmps[a]? =some (.int .i64 z))(hp:p.oneCell'=true)(hq:q.oneCell'=true)(hW:W.heap[N]? =some (wkO p x y q))(hF:R (.returned (.tuple #[wkV p x y q,.int .i64 z])) W):
  bodyPost prog f R Exit.ret { tmps:=tmps,defers:=[] } W:=by
 obtain⟨p0,p1,p2,p3,p4⟩:=wk_cells hW
 refine bodyPost_ret (v:=.tuple #[wkV p x y q,.int .i64 z]) ?_ rfl hF
 simp[results,hres,go_sem,h2,h3,p0,p1,p2,p3,p4]
theorem beginAt0(N:Nat)(p q:Value)(w:World)(h:w.heap[N]? =some (wkO p 0 0 q)):Calls prog 55 #[.pointer (some ⟨N,0,none⟩),.int .i64 0] w fun e w'=>e=.returned (.tuple #[])∧w'=(w.setCell ⟨N,1,none⟩ (.int .i64 0)).setCell ⟨N,2,none⟩ (.int .i64 0):=by
 obtain⟨p0,p1,p2,p3,p4⟩:=wk_cells h
 have fz:∀o,w.frozen? ⟨N,o,none⟩=false:=fun o=>by simp[World.frozen?,h]
 have hlt:=lt_of_block h
 clear h
 go_enter func55,ntmps55
 go_wp2
 go_end0
 exact⟨rfl,rfl⟩
abbrev wkS(W:World)(N:Nat)(p q:Value):World:=((((W.setCell ⟨N,0,none⟩ p).setCell ⟨N,1,none⟩ (.int .i64 0)).setCell ⟨N,2,none⟩ (.int .i64 0)).setCell ⟨N,3,none⟩ q).setCell ⟨N,4,none⟩ (.slice none 0 0)
theorem wkS_at{W:World}{N:Nat}{p0 q0:Value}(h:W.heap[N]? =some (wkO p0 0 0 q0))(p q:Value):(wkS W N p q).heap[N]? =some (wkO p 0 0 q):=by
 unfold wkS
 rw[set_oneQ (set_oneQ (set_oneQ (set_oneQ (set_oneQ h _ _) _ _) _ _) _ _) _ _]
 simp
theorem wkS_keep{W:World}{N b:Nat}(p q:Value)(h:b≠N):(wkS W N p q).heap[b]? =W.heap[b]? :=by
 unfold wkS
 have e:∀(W:World) (o:Nat) (v:Value),(W.setCell ⟨N,o,none⟩ v).heap[b]? =W.heap[b]? :=fun W o v=>Below.heap_setCell _ _ _ _ (by simpa using h)
 rw[e,e,e,e,e]
theorem own_ne{W W':World}{B n:Nat}{v:Value}{l:List Int}(h:W.ownsRow B 3 1 v n (i64s l))(hk:∀(k:Nat) (cs:Array Value),W.heap[k]? =some (Obj.cells cs 3 (0,0))→W'.heap[k]? =some (Obj.cells cs 3 (0,0))):W'.ownsRow B 3 1 v n (i64s l):=by
 refine⟨h.1,?_⟩
 rcases h.2 with h2|⟨g,cap,cur,h1,h3,hg,h4⟩
 ·exact .inl h2
 ·exact .inr ⟨g,cap,cur,h1,h3,hk g cur hg,h4⟩
theorem own_base{W:World}{B B' e k n:Nat}{v:Value}{xs:List Value}(h:W.ownsRow B e k v n xs)(hb:B'≤B):W.ownsRow B' e k v n xs:=by
 refine⟨h.1,?_⟩
 rcases h.2 with h2|⟨b,cap,cur,rfl,h3,h4⟩
 ·exact .inl h2
 ·exact .inr ⟨b,cap,cur,rfl,Nat.le_trans hb h3,h4⟩
theorem begin_aab(w:World):Calls prog 31 #[.int .i64 4,.string aab,.int .i64 0,.int .i64 1000] w fun e w'=>∃p q,e=.returned (.tuple #[wkV p 0 0 q,.int .i64 0])∧w'.ownsRow w.heap.size 3 1 p 3 (i64s [97,97,98])∧w'.ownsRow w.heap.size 3 1 q 4 (i64s [0,1,2,3])∧Below w.heap.size w w':=by
 obtain⟨N,hN⟩:=named w.heap.size
 obtain⟨w1,hw1⟩:=named (w.alloc (wkO (.slice none 0 0) 0 0 (.slice none 0 0)))
 have hb1:Below w.heap.size w w1:=by rw[hw1];exact allocB _ _
 have hx1:w1.heap[N]? =some (wkO (.slice none 0 0) 0 0 (.slice none 0 0)):=by rw[hw1,hN];exact at_new _ _
 have HX1:=hide hx1
 have HB1:Hid (Below N w w1):=by show Below N w w1;rw[hN];exact hb1
 have HC1:=hide (dec_aab w1)
 have HS1:Hid (N<w1.heap.size):=lt_of_block hx1
 rw[← hN]
 simp only[wkO]at hw1
 clear hb1 hx1
 go_enter func31,ntmps31
 go_upto_region 1 with fail
 rw[← hw1, ←hN]
 clear hw1 hN
 go_wp2_with fail
 refine HC1.out.mono ?_
 rintro e w2 ⟨p,rfl,hp2,hb2⟩
 obtain⟨po,pc,rfl⟩:=own_shape hp2
 -- the fault's box
 obtain⟨w3,hw3⟩:=named (w2.alloc fltO)
 have hb3:Below w2.heap.size w2 w3:=by rw[hw3];exact allocB _ _
 have hf3:w3.heap[w2.heap.size]? =some fltO:=by rw[hw3];exact at_new _ _
 obtain⟨fb,hfb⟩:=named w2.heap.size
 rw[← hfb]at hf3
 have hb13:=hb2.andT hb3
 have HX3:=hide (below_at hb13 HX1.out)
 have HP3:=hide (own_below hp2 hb3)
 have HB3:Hid (Below N w w3):=HB1.out.trans (hb13.mono (by have:=HS1.out;omega))
 have HS3:Hid (N<w3.heap.size):=lt_of_block HX3.out
 have f0:w3.cell? ⟨fb,0,none⟩=some (.int .i64 0):=by simp[World.cell?,hf3]
 have HC2:=hide (sta_aab w3)
 simp only[fltO]at hw3
 clear HC1 hp2 hb2 hb3 hf3 hb13 HX1 HB1
 go_upto_region 2 with fail
 rw[← hw3, ←hfb]
 clear hw3 hfb
 go_wp2_with fail
 refine HC2.out.mono ?_
 rintro e w4 ⟨q,rfl,hq4,hb4⟩
 obtain⟨g,qc,rfl⟩:=own_some hq4 (by omega)
 obtain⟨w5,hw5⟩:=named (w4.alloc fltO)
 have hb5:Below w4.heap.size w4 w5:=by rw[hw5];exact allocB _ _
 have hb35:=hb4.andT hb5
 have hq5:=own_below hq4 hb5
 have HX5:=hide (below_at hb35 HX3.out)
 have HP5:=hide (own_below HP3.out hb35)
 have HB5:Hid (Below N w w5):=HB3.out.trans (hb35.mono (by have:=HS3.out;omega))
 have HQ5:=hide hq5
 have HS5:Hid (N<w5.heap.size):=lt_of_block HX5.out
 have q0:w5.cell? ⟨g,0,none⟩=some (.int .i64 0):=own_cell (L:=[0,1,2,3]) hq5 (j:=0) (by decide)
 have q1:w5.cell? ⟨g,1,none⟩=some (.int .i64 1):=own_cell (L:=[0,1,2,3]) hq5 (j:=1) (by decide)
 have q2:w5.cell? ⟨g,2,none⟩=some (.int .i64 2):=own_cell (L:=[0,1,2,3]) hq5 (j:=2) (by decide)
 have HC3:=hide (bs_0 g qc w5 q0 q1 q2)
 simp only[fltO]at hw5
 clear HC2 hq4 hb4 hb5 hb35 hq5 q0 q1 q2 f0 HX3 HP3 HB3
 go_upto_region 5 with fail
 rw[← hw5]
 clear hw5
 go_wp2_with fail
 refine HC3.out.mono ?_
 rintro e w' ⟨rfl,hw'⟩
 have hw'':=hw'.symm
 subst hw''
 -- the walker's box
 obtain⟨w6,hw6⟩:=named (w5.alloc (wkO (.slice po 3 pc) 0 0 (.slice (some ⟨g,0,none⟩) 4 qc)))
 have hb6:Below w5.heap.size w5 w6:=by rw[hw6];exact allocB _ _
 have hy6:w6.heap[w5.heap.size]? =some (wkO (.slice po 3 pc) 0 0 (.slice (some ⟨g,0,none⟩) 4 qc)):=by rw[hw6];exact at_new _ _
 obtain⟨yb,hyb⟩:=named w5.heap.size
 rw[← hyb]at hy6
 have HC4:=hide (beginAt0 yb _ _ w6 hy6)
 obtain⟨w7,hw7⟩:=named ((w6.setCell ⟨yb,1,none⟩ (.int .i64 0)).setCell ⟨yb,2,none⟩ (.int .i64 0))
 rw[← hw7]at HC4
 have hy7:w7.heap[yb]? =some (wkO (.slice po 3 pc) 0 0 (.slice (some ⟨g,0,none⟩) 4 qc)):=by rw[hw7,set_oneQ (set_oneQ hy6 _ _) _ _];simp
 have hNy:N≠yb:=by have:=HS5.out;omega
 have k7:∀{k:Nat} {o:Obj},k≠yb→w6.heap[k]? =some o→w7.heap[k]? =some o:=fun {k o} hk ho=>by rw[hw7,Below.heap_setCell _ _ _ _ (by simpa using hk),Below.heap_setCell _ _ _ _ (by simpa using hk)];exact ho
 have hx7:=k7 hNy (below_at hb6 HX5.out)
 have ny:∀{k:Nat} {cs:Array Value},w6.heap[k]? =some (Obj.cells cs 3 (0,0))→k≠yb:=fun {k cs} hk e=>by
  rw[e,hy6]at hk
  cases hk
 have hp7:=own_ne (W':=w7) (own_below HP5.out hb6) fun k cs hk=>k7 (ny hk) hk
 have hq7:=own_ne (W':=w7) (own_below HQ5.out hb6) fun k cs hk=>k7 (ny hk) hk
 have hB7:Below N w w7:=by
  rw[hw7]
  exact((HB5.out.trans (hb6.mono (by have:=HS5.out;omega))).setCell (p:=⟨yb,1,none⟩) (show N≤yb by have:=HS5.out;omega) _).setCell (p:=⟨yb,2,none⟩) (show N≤yb by have:=HS5.out;omega) _
 obtain⟨a0,a1,a2,a3,a4⟩:=wk_cells hy7
 obtain⟨x0,x1,x2,x3,x4⟩:=wk_cells hx7
 have xf:∀o,w7.frozen? ⟨N,o,none⟩=false:=fun o=>by simp[World.frozen?,hx7]
 have hl7:=lt_of_block hx7
 have HZ:=hide (wkS_at hx7 (.slice po 3 pc) (.slice (some ⟨g,0,none⟩) 4 qc))
 have nx:∀{k:Nat} {cs:Array Value},w7.heap[k]? =some (Obj.cells cs 3 (0,0))→k≠N:=fun {k cs} hk e=>by
  rw[e,hx7]at hk
  cases hk
 have HP8:=hide (own_ne (W':=wkS w7 N (.slice po 3 pc) (.slice (some ⟨g,0,none⟩) 4 qc)) hp7 fun k cs hk=>by rw[wkS_keep _ _ (nx hk)];exact hk)
 have HQ8:=hide (own_ne (W':=wkS w7 N (.slice po 3 pc) (.slice (some ⟨g,0,none⟩) 4 qc)) hq7 fun k cs hk=>by rw[wkS_keep _ _ (nx hk)];exact hk)
 have HB8:Hid (Below N w (wkS w7 N (.slice po 3 pc) (.slice (some ⟨g,0,none⟩) 4 qc))):=((((hB7.setCell (p:=⟨N,0,none⟩) (Nat.le_refl N) _).setCell (p:=⟨N,1,none⟩) (Nat.le_refl N) _).setCell (p:=⟨N,2,none⟩) (Nat.le_refl N) _).setCell (p:=⟨N,3,none⟩) (Nat.le_refl N) _).setCell (p:=⟨N,4,none⟩) (Nat.le_refl N) _
 simp only[wkO]at hw6
 clear HC3 hb6 hy6 hy7 hx7 hp7 hq7 hB7 k7 ny nx hw7
 go_upto_region 9 with fail
 rw[← hw6, ←hyb]
 clear hw6 hyb
 go_wp2_with fail
 refine HC4.out.mono ?_
 rintro e w' ⟨rfl,hw'⟩
 have hw'':=hw'.symm
 subst hw''
 clear HC4
 go_wp2
 exact ret_wk rfl rfl rfl rfl rfl HZ.out ⟨_,_,rfl,own_base HP8.out (by have:=HS1.out;omega),own_base HQ8.out (by have:=HS3.out;omega),HB8.out⟩
abbrev rgN:Obj:=.cells #[.int .i64 (-1),.int .i64 (-1)] 101
theorem ret_rg{f:Func}{tmps:Array Value}{W:World}{M a:Nat}{R:Ending→World→Prop}(hres:f.results=#[ResultVar.cell a 101])(h3:tmps[a]? =some (.pointer (some ⟨M,0,none⟩)))(hV:W.heap[M]? =some rgN)(hF:R (.returned (.agg #[.int .i64 (-1),.int .i64 (-1)])) W):
  bodyPost prog f R Exit.ret { tmps:=tmps,defers:=[] } W:=by
 have q0:W.cell? ⟨M,0,none⟩=some (.int .i64 (-1)):=by simp[World.cell?,hV]
 have q1:W.cell? ⟨M,1,none⟩=some (.int .i64 (-1)):=by simp[World.cell?,hV]
 refine bodyPost_ret (v:=.agg #[.int .i64 (-1),.int .i64 (-1)]) ?_ rfl hF
 simp[results,hres,go_sem,h3,q0,q1]
theorem nothing_any(w:World):Calls prog 59 #[] w fun e w'=>e=.returned (.agg #[.int .i64 (-1),.int .i64 (-1)])∧Below w.heap.size w w':=by
 have HB:Hid (Below w.heap.size w (w.alloc rgN)):=allocB _ _
 have HX:Hid ((w.alloc rgN).heap[w.heap.size]? =some rgN):=at_new _ _
 go_enter func59,ntmps59
 go_wp2
 exact ret_rg rfl rfl HX.out ⟨rfl,HB.out⟩
theorem mul64(w:World):Calls prog 164 #[.int .u64 1,.int .u64 0] w fun e w'=>e=.returned (.tuple #[.int .u64 0,.int .u64 0])∧w'=w:=by
 go_enter func164,ntmps164
 go_wp2
 go_ret2
 exact⟨rfl,rfl⟩
theorem mul_10(w:World):Calls prog 130 #[.int .u64 1,.int .u64 0] w fun e w'=>e=.returned (.tuple #[.int .u64 0,.int .u64 0])∧w'=w:=by
 have HC:=hide (mul64 w)
 go_enter func130,ntmps130
 go_wp2_with fail
 refine HC.out.mono ?_
 rintro e w' ⟨rfl,hw'⟩
 have hw'':=hw'.symm
 subst hw''
 go_wp2
 go_ret2
 exact⟨rfl,rfl⟩
theorem infoRg:(Tryz.prog.info? 101).map (fun i=>(i.zero,i.size,i.bytes))=some (some (.agg #[.int .i64 0,.int .i64 0]),2,16):=by kernel_rfl
theorem mk0(w:World):(Instr.makeSlice 29 (.int .i64 0) (.int .i64 0)).run prog w=.ok (.slice (some ⟨w.heap.size,0,none⟩) 0 0) (w.alloc (.cells #[] 101)):=by
 obtain⟨i,hi,hz,hs,hb⟩:=info_parts infoRg
 have:=run_makeSlice (P:=prog) w 29 101 i _ underlying29 hi hz .i64 .i64 0 0 (by decide) (by decide) (by rw[hs];decide) (by rw[hb];decide) (by decide)
 have hc:madeCells (Value.agg #[Value.int .i64 0,Value.int .i64 0]).cells (Int.toNat 0*2)=#[]:=by kernel_rfl
 rw[this,hs,hc]
 rfl
theorem copy0(w:World)(d a:Addr):(Builtin.copy_ #[29,29] 3 #[.slice (some d) 0 0,.slice (some a) 1 1]).run prog w=.ok (.int .i64 0) w:=by
 obtain⟨i,hi,hz,hs,hb⟩:=info_parts infoRg
 have hl:∀(x:Addr),(loadCells x 0).run prog w=.ok #[] w:=fun x=>by simpa using run_loadCells_list (P:=prog) w x [] (by simp)
 simp[Builtin.copy_,run_underlying underlying29,Builtin.lenOf,Builtin.firstCells,sizeOf,typeInfo,hi,storeCells,hl,goInt]
theorem repeat0(b:Nat)(w:World)(hb:w.heap[b]? =some rgN):Calls prog 86 #[.slice (some ⟨b,0,none⟩) 1 1,.int .i64 0] w fun e w'=>∃ga gc,e=.returned (.slice ga 0 gc)∧Below w.heap.size w w':=by
 have HC:=hide (mul_10 w)
 have q0:w.cell? ⟨b,0,none⟩=some (.int .i64 (-1)):=by simp[World.cell?,hb]
 have q1:w.cell? ⟨b,1,none⟩=some (.int .i64 (-1)):=by simp[World.cell?,hb]
 clear hb
 go_enter func86,ntmps86
 go_wp2_with fail
 refine HC.out.mono ?_
 rintro e w' ⟨rfl,hw'⟩
 have hw'':=hw'.symm
 subst hw''
 clear HC
 have hmk:=mk0 w
 have hcp:=copy0 (w.alloc (.cells #[] 101)) ⟨w.heap.size,0,none⟩ ⟨b,0,none⟩
 have HB:Hid (Below w.heap.size w (w.alloc (.cells #[] 101))):=allocB _ _
 go_upto_region 7 with fail
 go_wp2
 refine wp_loop_rounds 1 ?_
 rw[rounds_succ]
 go_wp2
 go_ret
 exact⟨_,_,rfl,HB.out⟩
theorem noGroups0(w:World):Calls prog 56 #[.int .i64 0] w fun e w'=>∃ga gc,e=.returned (.slice ga 0 gc)∧Below w.heap.size w w':=by
 have HC:=hide (nothing_any w)
 go_enter func56,ntmps56
 go_wp2_with fail
 refine HC.out.mono ?_
 rintro e w1 ⟨rfl,hb1⟩
 obtain⟨w2,hw2⟩:=named (w1.alloc rgN)
 have hb2:Below w1.heap.size w1 w2:=by rw[hw2];exact allocB _ _
 have hx2:w2.heap[w1.heap.size]? =some rgN:=by rw[hw2];exact at_new _ _
 have HC2:=hide (repeat0 _ w2 hx2)
 have HB2:=hide (hb1.andT hb2)
 simp only[rgN]at hw2
 clear HC hb1 hb2 hx2
 go_wp2_with fail
 rw[← hw2]
 refine HC2.out.mono ?_
 rintro e w3 ⟨ga,gc,rfl,hb3⟩
 have HB3:=hide (HB2.out.andT hb3)
 clear HC2 hb3 hw2
 go_wp2
 go_ret
 exact⟨_,_,rfl,HB3.out⟩
end Go.Proofs.YtfnndcbjklppeaaGreatDoor.En
