import Derived.Test.YtfnndcbjklppeaaGreatDoorVU2
import Derived.Test.YtfnndcbjklppeaaGreatDoorUF2
import Derived.Test.YtfnndcbjklppeaaGreatDoorVL2
import Derived.Laws.OwnMore
import Derived.LoopN
set_option linter.unusedVariables false
set_option maxRecDepth 1000000
set_option maxHeartbeats 8000000
open Go.Proofs.Tryz
namespace Go.Proofs.YtfnndcbjklppeaaGreatDoor
open Go.RowKit
theorem wpList_run{P:Program}{ops:Array Oper}{rest:List Oper}{o:Oper}{a:Act}{w:World}{Q:Exit→Act→World→Prop}(hgd:o.guard=none)(s x:Operand)(t:TypeId)
  (ho:o.op=.call { callee:=.builtin .append,args:=#[s,x],argTypes:=#[t,t] }) (v v2 v':Value) (w':World) (hs:a.eval s=v) (hx:a.eval x=v2) (hr:(Builtin.append_ #[t,t] o.type #[v,v2]).run P w=.ok v' w') (h:wpList P ops Q rest (a.put o.dst v') w'):wpList P ops Q (o::rest) a w:=
 wpList_plain hgd fun _ hK=>by
  unfold Oper.wp execOp
  simp only[ho,resolve,invoke,builtin,Sem.run_bind,Sem.run_pure,Result.andThen_ok,List.map_toArray,List.map_cons,List.map_nil,hs,hx,hr]
  exact hK _ _ h
theorem nvL_len(n:NV):(nvL n).length=8:=rfl
theorem nvL_one(n:NV):∀v∈nvL n,v.oneCell'=true:=by
 intro v hv
 simp only[nvL,List.mem_cons,List.not_mem_nil,or_false]at hv
 rcases hv with rfl|rfl|rfl|rfl|rfl|rfl|rfl|rfl<;>rfl
theorem infoNode:(Tryz.prog.info? 32).map (fun i=>(i.zero,i.size,i.bytes))=some (some (.agg #[.int .i64 0,.slice none 0 0,.slice none 0 0,.int .i64 0,.int .i64 0,.int .i64 0,.int .i64 0,.bool false]),8,96):=by kernel_rfl
def rowQ(xs:List NV):List Value:=xs.flatMap nvL
theorem rowQ_app(a b:List NV):rowQ (a++b)=rowQ a++rowQ b:=by simp[rowQ]
theorem rowQ_len:∀xs:List NV,(rowQ xs).length=xs.length*8
 |[]=>rfl
 |x::xs=>by rw[rowQ,List.flatMap_cons,List.length_append,nvL_len];have:=rowQ_len xs;rw[rowQ]at this;rw[this,List.length_cons];omega
theorem rowQ_one(xs:List NV):∀u∈rowQ xs,u.oneCell'=true:=by
 intro u hu
 obtain⟨x,_,hx⟩:=List.mem_flatMap.1 hu
 exact nvL_one x u hx
theorem rowQ_get:∀(xs:List NV) (j:Nat) (hj:j<xs.length) (i:Nat),i<8→(rowQ xs)[j*8+i]? =(nvL xs[j])[i]?
 |x::xs,0,hj,i,hi=>by
  rw[rowQ,List.flatMap_cons,List.getElem?_append_left (by rw[nvL_len];omega)]
  simp
 |x::xs,j+1,hj,i,hi=>by
  rw[rowQ,List.flatMap_cons,List.getElem?_append_right (by rw[nvL_len];omega),nvL_len]
  have:=rowQ_get xs j (by simpa using hj) i hi
  rw[rowQ]at this
  rw[show (j+1)*8+i - 8=j*8+i from by omega,this]
  rfl
theorem ncells_at{W:World}{a:Addr}{n:NV}(h:NCells W a n)(i:Nat)(hi:i<8)(u:Value)(hu:(nvL n)[i]? =some u):W.cell? (a.add i)=some u:=by
 obtain⟨c0,c1,c2,c3,c4,c5,c6,c7⟩:=h
 match i,hi with
 |0,_=>simp[nvL]at hu;subst hu;exact c0
 |1,_=>simp[nvL]at hu;subst hu;exact c1
 |2,_=>simp[nvL]at hu;subst hu;exact c2
 |3,_=>simp[nvL]at hu;subst hu;exact c3
 |4,_=>simp[nvL]at hu;subst hu;exact c4
 |5,_=>simp[nvL]at hu;subst hu;exact c5
 |6,_=>simp[nvL]at hu;subst hu;exact c6
 |7,_=>simp[nvL]at hu;subst hu;exact c7
theorem grown_blk{W W':World}{row:Option Nat}(h:W.grownBy W' row){b:Nat}{o:Obj}(hb:W.heap[b]? =some o)(hn:some b≠row):W'.heap[b]? =some o:=by
 rw[h.block b (lt_of_block hb) hn];exact hb
theorem app_one{W:World}{B n:Nat}{v:Value}{xs:List NV}{y:NV}{sb:Nat}(hB:B≤W.heap.size)(ho:W.ownsRow B 32 8 v n (rowQ xs))(hs:W.heap[sb]? =some (nvO y))(hl:n≤1000):
  ∃g vc W',(Builtin.append_ #[30,30] 30 #[v,.slice (some ⟨sb,0,none⟩) 1 1]).run prog W=.ok (.slice (some ⟨g,0,none⟩) (n+1) vc) W'∧W'.ownsRow B 32 8 (.slice (some ⟨g,0,none⟩) (n+1) vc) (n+1) (rowQ (xs++[y]))∧W.grownBy W' v.ownBlock:=by
 obtain⟨i0,hi,hz0,hz1,hz2⟩:=info_parts infoNode
 obtain ⟨v',w',hr,ho',hg, -⟩:=run_append_own (P:=prog) W B 30 30 32 i0 _ 8 96 underlying30 hi hz0 hz1 hz2 rfl (by decide) v n (rowQ xs) ho ⟨sb,0,none⟩ 1 1 (rowQ [y]) (by rw[rowQ_len];rfl)
   (fun j u hu=>by
    have hj:j<8:=by have:=(List.getElem?_eq_some_iff.1 hu).1;rwa[rowQ_len]at this
    have h2:=rowQ_get [y] 0 (by simp) j hj
    rw[show 0*8+j=j by omega]at h2
    rw[h2]at hu
    exact ncells_at (nv_cells hs) j hj u hu)
   (rowQ_one [y]) (by unfold maxLen;omega) (by omega) hB
 rcases ho'.2 with⟨rfl,h0⟩|⟨g,cap,cur,rfl,h1⟩
 ·omega
 ·exact⟨g,cap,w',hr,by rw[rowQ_app];exact ho',hg⟩
theorem own_below{B e:Nat}{w w':World}{v:Value}{n k:Nat}{xs:List Value}(h:w.ownsRow B e k v n xs)(hb:Below w.heap.size w w'):w'.ownsRow B e k v n xs:=by
 refine⟨h.1,?_⟩
 rcases h.2 with h2|⟨g,cap,cur,rfl,h3,hg,h4⟩
 ·exact Or.inl h2
 ·exact Or.inr ⟨g,cap,cur,rfl,h3,by rw[hb.block g (Array.getElem?_eq_some_iff.1 hg).1];exact hg,h4⟩
theorem own_blk{w w':World}{B e g n k cap:Nat}{xs:List Value}(h:w.ownsRow B e k (.slice (some ⟨g,0,none⟩) n cap) n xs)(hb:∀o,w.heap[g]? =some o→w'.heap[g]? =some o):w'.ownsRow B e k (.slice (some ⟨g,0,none⟩) n cap) n xs:=by
 obtain⟨h1,h2⟩:=h
 rcases h2 with⟨h0,_⟩|⟨g',cap',cur,hv,hB,hh,hr⟩
 ·cases h0
 ·cases hv
  exact⟨h1,.inr ⟨g,cap,cur,rfl,hB,hb _ hh,hr⟩⟩
theorem own_ge{w:World}{B e g n k cap:Nat}{xs:List Value}(h:w.ownsRow B e k (.slice (some ⟨g,0,none⟩) n cap) n xs):B≤g:=by
 rcases h.2 with⟨h0,_⟩|⟨g',cap',cur,hv,hB,hr⟩
 ·cases h0
 ·cases hv;exact hB
theorem own_lt{w:World}{B e g n k cap:Nat}{xs:List Value}(h:w.ownsRow B e k (.slice (some ⟨g,0,none⟩) n cap) n xs):g<w.heap.size:=by
 rcases h.2 with⟨h0,_⟩|⟨g',cap',cur,hv,hB,hh,hr⟩
 ·cases h0
 ·cases hv;exact lt_of_block hh
theorem row_cells{w:World}{B g n cap:Nat}{xs:List NV}(h:w.ownsRow B 32 8 (.slice (some ⟨g,0,none⟩) n cap) n (rowQ xs))(j:Nat)(hj:j<xs.length):NCells w ⟨g,j*8,none⟩ xs[j]:=by
 have hl:(rowQ xs).length=xs.length*8:=rowQ_len xs
 have hn:xs.length*8=n*8:=by rw[← hl];exact h.1
 have e:∀i,i<8→w.cell? ⟨g,j*8+i,none⟩=(nvL xs[j])[i]? :=fun i hi=>by
  have:=World.ownsRow.cellAt h (j*8+i) (by omega)
  rw[← rowQ_get xs j hj i hi]
  exact this
 exact⟨e 0 (by omega),e 1 (by omega),e 2 (by omega),e 3 (by omega),e 4 (by omega),e 5 (by omega),e 6 (by omega),e 7 (by omega)⟩
theorem own_nset{w:World}{B g cap:Nat}{a n:NV}(h:w.ownsRow B 32 8 (.slice (some ⟨g,0,none⟩) 1 cap) 1 (rowQ [a])):(nset w g n).ownsRow B 32 8 (.slice (some ⟨g,0,none⟩) 1 cap) 1 (rowQ [n]):=by
 obtain⟨h1,h2⟩:=h
 rcases h2 with⟨h0,_⟩|⟨g',cap',cur,hv,hB,hh,hn,hm,hs,ht⟩
 ·cases h0
 ·cases hv
  have hset:=set_oneQ (set_oneQ (set_oneQ (set_oneQ (set_oneQ (set_oneQ (set_oneQ (set_oneQ hh 0 (.int .i64 n.kind)) 1 (.slice n.sa n.sl n.sc)) 2 (.slice n.ka n.kl n.kc)) 3 (.int .i64 n.num)) 4 (.int .i64 n.least)) 5 (.int .i64 n.most)) 6 (.int .i64 n.way)) 7 (.bool n.fold)
  refine⟨by rw[rowQ_len];rfl,.inr ⟨g,cap,_,rfl,hB,hset,hn,hm,by simp[hs],?_⟩⟩
  have hl:8≤cur.toList.length:=by rw[Array.length_toList];omega
  obtain⟨L,hL⟩:=named cur.toList
  simp only[Array.toList_setIfInBounds]
  rw[← hL]at hl ⊢
  clear hL hset ht hh h1 hs
  match L,hl with
  |a0::a1::a2::a3::a4::a5::a6::a7::rest,_=>rfl
theorem add_block(x:Addr)(k:Nat):(x.add k).block=x.block:=by unfold Addr.add;split<;>rfl
theorem ReadsI.kpb{w w':World}{x:Addr}{l:List Int}{pb:Nat}(h:ReadsI w x l)(hk:Kpb pb w w')(hx:x.block≠pb):ReadsI w' x l:=fun j hj=>by
 have h1:=h j hj
 have hlt:=lt_of_cell h1
 rw[add_block]at hlt
 obtain⟨o,ho⟩:∃o,w.heap[x.block]? =some o:=⟨_,Array.getElem?_eq_getElem hlt⟩
 have h2:=hk.keep _ _ ho hx
 rw[World.cell?_of_block (w:=w) (w':=w') (by rw[add_block,h2,ho])]
 exact h1
theorem Kpb.grown{pb:Nat}{w w' w2:World}{row:Option Nat}(h:Kpb pb w w')(hp:pb<w.heap.size)(hg:w'.grownBy w2 row)(hr:∀k,row=some k→w.heap.size≤k):Kpb pb w w2:=
 ⟨Nat.le_trans h.size hg.size,fun b o hb hn=>grown_blk hg (h.keep b o hb hn) (fun e=>by have:=hr b e.symm;have:=lt_of_block hb;omega),fun B w0 hB h0=>(h.low B w0 hB h0).grown hg (by have:=h.size;omega) (fun k hk=>by have:=hr k hk;omega)⟩
theorem ReadsI.grown{w w':World}{x:Addr}{l:List Int}{row:Option Nat}(h:ReadsI w x l)(hg:w.grownBy w' row)(hx:some x.block≠row):ReadsI w' x l:=fun j hj=>by
 have h1:=h j hj
 have hlt:=lt_of_cell h1
 rw[add_block]at hlt
 rw[World.cell?_of_block (w:=w) (w':=w') (by rw[add_block,hg.block _ hlt hx])]
 exact h1
abbrev repN(kb:Nat):NV:=⟨12,none,0,0,some ⟨kb,0,none⟩,1,1,0,1, -1,1,false⟩
theorem ReadsI.blk{w w':World}{x:Addr}{l:List Int}(h:ReadsI w x l)(hb:w'.heap[x.block]? =w.heap[x.block]?):ReadsI w' x l:=fun j hj=>by
 rw[World.cell?_of_block (w:=w) (w':=w') (by rw[add_block];exact hb)]
 exact h j hj
theorem own_base{w:World}{B B' e g n k cap:Nat}{xs:List Value}(h:w.ownsRow B e k (.slice (some ⟨g,0,none⟩) n cap) n xs)(hB:B'≤B):w.ownsRow B' e k (.slice (some ⟨g,0,none⟩) n cap) n xs:=by
 obtain⟨h1,h2⟩:=h
 rcases h2 with⟨h0,_⟩|⟨g',cap',cur,hv,hb,hr⟩
 ·cases h0
 ·cases hv
  exact⟨h1,.inr ⟨g,cap,cur,rfl,Nat.le_trans hB hb,hr⟩⟩
abbrev nvZ:NV:=⟨0,none,0,0,none,0,0,0,0,0,0,false⟩
theorem branch_ab(pb:Nat)(x:Addr)(c:Nat)(w:World)(hP:w.heap[pb]? =some (prsO x c 0))(hr:ReadsI w x abL)(hx:x.block≠pb)(hxl:x.block<w.heap.size):Calls prog 50 #[.pointer (some ⟨pb,0,none⟩)] w fun e w'=>∃kb r1 r2 g c4,e=.returned (nvV ⟨9,none,0,0,some ⟨g,0,none⟩,2,c4,0,0,0,0,false⟩)∧w'.heap[pb]? =some (prsO x c 3)∧w'.ownsRow w.heap.size 32 8 (.slice (some ⟨g,0,none⟩) 2 c4) 2 (rowQ [repN kb,setN r2])∧w'.heap[kb]? =some (nvO (setN r1))∧w'.heap[r1]? =some (rgO 97)∧w'.heap[r2]? =some (rgO 98)∧ReadsI w' x abL∧Kpb pb w w'∧w.heap.size≤r1∧w.heap.size≤r2∧w.heap.size≤kb:=by
 have hlt:=lt_of_block hP
 have hb1:Below w.heap.size w (w.alloc (nvO nvZ)):=allocB _ _
 obtain⟨w1,hw1⟩:=named (w.alloc (nvO nvZ))
 have hx1:w1.heap[w.heap.size]? =some (nvO nvZ):=by rw[hw1];exact at_new _ _
 rw[← hw1]at hb1
 have HK1:=hide (Kpb.of hlt hb1)
 have HP1:=hide (below_at hb1 hP)
 have HN1:=hide hx1
 have HR1:=hide (hr.below hb1)
 simp only[nvO]at hw1
 have HC:=hide (token_0 pb x c w1 HP1.out HR1.out)
 clear hb1 hx1 hP hr
 go_enter func50,ntmps50
 go_upto_region 1 with fail
 rw[← hw1]
 clear hw1
 go_wp2
 refine wp_loop_rounds 4 ?_
 rw[rounds_succ]
 go_wp2_with fail
 refine HC.out.mono ?_
 rintro e w2 ⟨rfl,hb2⟩
 have HK2:=hide (HK1.out.trans (Kpb.of (lt_of_block HP1.out) hb2))
 have HP2:=hide (below_at hb2 HP1.out)
 have HN2:=hide (below_at hb2 HN1.out)
 have HR2:=hide (HR1.out.below hb2)
 clear hb2 HC HK1 HP1 HN1 HR1
 have HL2:Hid (w.heap.size≤w2.heap.size):=HK2.out.size
 -- the token's box
 have hb3:Below w2.heap.size w2 (w2.alloc (tokO (pointT 97))):=allocB _ _
 obtain⟨w3,hw3⟩:=named (w2.alloc (tokO (pointT 97)))
 have ht3:w3.heap[w2.heap.size]? =some (tokO (pointT 97)):=by rw[hw3];exact at_new _ _
 rw[← hw3]at hb3
 have HK3:=hide (HK2.out.trans (Kpb.of (lt_of_block HP2.out) hb3))
 have HP3:=hide (below_at hb3 HP2.out)
 have HN3:=hide (below_at hb3 HN2.out)
 have HR3:=hide (HR2.out.below hb3)
 obtain⟨m0,m1,m2,m3,m4,m5,m6,m7⟩:=tok_cells ht3
 have HT3:=hide ht3
 simp only[pointT]at m0 m1 m2 m3 m4 m5 m6 m7
 simp only[tokO,pointT]at hw3
 simp only[tokV,pointT]
 have HC:=hide (atom_pt 97 pb x c 0 1 w3 HP3.out)
 simp only[tokV,pointT]at HC
 clear hb3 ht3 HK2 HP2 HN2 HR2
 go_upto_region 4 with fail
 rw[← hw3]
 clear hw3
 go_wp2_with fail
 refine HC.out.mono ?_
 rintro e w4 ⟨r1,rfl,hr1,hq1,hP4,hk4⟩
 have HK4:=hide (HK3.out.trans hk4)
 have HN4:=hide (hk4.keep _ _ HN3.out (by omega))
 have HT4:=hide (hk4.keep _ _ HT3.out (by have:=HL2.out;omega))
 have HR4:=hide (HR3.out.kpb hk4 hx)
 have HP4:=hide hP4
 have HQ4:=hide hq1
 have HL4:Hid (w.heap.size<r1):=Nat.lt_of_lt_of_le (lt_of_block HN3.out) hr1
 clear HC hk4 hP4 hq1 hr1 HK3 HP3 HN3 HR3 HT3 m0 m1 m2 m3 m4 m5 m6 m7
 -- the slice of the node, and the append
 obtain⟨w5,hw5⟩:=named (w4.alloc (nvO (setN r1)))
 have hb5:Below w4.heap.size w4 w5:=by rw[hw5];exact allocB _ _
 have hs5:w5.heap[w4.heap.size]? =some (nvO (setN r1)):=by rw[hw5];exact at_new _ _
 obtain⟨g1,c1,w6,hrun,ho6,hg6⟩:=app_one (B:=w5.heap.size) (v:=.slice none 0 0) (n:=0) (xs:=[]) (leR _) ⟨rfl,.inl ⟨rfl,rfl⟩⟩ hs5 (by omega)
 have hk5:=HK4.out.trans (Kpb.of (lt_of_block HP4.out) hb5)
 have HK6:=hide (hk5.grown hlt hg6 (fun k hk=>by cases hk))
 have HN6:=hide (grown_blk hg6 (below_at hb5 HN4.out) (by simp[Value.ownBlock]))
 have HT6:=hide (grown_blk hg6 (below_at hb5 HT4.out) (by simp[Value.ownBlock]))
 have HP6:=hide (grown_blk hg6 (below_at hb5 HP4.out) (by simp[Value.ownBlock]))
 have HQ6:=hide (grown_blk hg6 (below_at hb5 HQ4.out) (by simp[Value.ownBlock]))
 have HR6:=hide ((HR4.out.below hb5).grown hg6 (by simp[Value.ownBlock]))
 have HO6:=hide ho6
 have HRun:=hide hrun
 have HL5:Hid (w.heap.size<w5.heap.size∧r1<w5.heap.size∧w2.heap.size<w5.heap.size):=⟨lt_of_block (below_at hb5 HN4.out),lt_of_block (below_at hb5 HQ4.out),lt_of_block (below_at hb5 HT4.out)⟩
 simp only[nvO]at hw5
 simp only[nvV]
 clear hb5 hs5 hrun ho6 hg6 hk5 HK4 HN4 HT4 HP4 HQ4 HR4
 obtain⟨m0,m1,m2,m3,m4,m5,m6,m7⟩:=tok_cells HT6.out
 simp only[pointT]at m0 m1 m2 m3 m4 m5 m6 m7
 simp only[List.nil_append,Nat.zero_add]at HRun HO6
 rw[hw5]at HRun
 go_wp2_with (at_builtin;refine wpList_run rfl _ _ 30 rfl _ _ _ _ rfl rfl HRun.out ?_)
 -- the second round
 have HC:=hide (token_1 pb x c w6 HP6.out HR6.out)
 clear m0 m1 m2 m3 m4 m5 m6 m7 HRun hw5 HT6 HL2
 rw[rounds_succ]
 go_wp2_with fail
 refine HC.out.mono ?_
 rintro e w7 ⟨rfl,hb7⟩
 obtain⟨w8,hw8⟩:=named (w7.alloc (tokO repT))
 have hb8:Below w7.heap.size w7 w8:=by rw[hw8];exact allocB _ _
 have hbb:=hb7.andT hb8
 have ht8:w8.heap[w7.heap.size]? =some (tokO repT):=by rw[hw8];exact at_new _ _
 have HK8:=hide (HK6.out.trans (Kpb.of (lt_of_block HP6.out) hbb))
 have HP8:=hide (below_at hbb HP6.out)
 have HN8:=hide (below_at hbb HN6.out)
 have HQ8:=hide (below_at hbb HQ6.out)
 have HR8:=hide (HR6.out.below hbb)
 have HO8:=hide (own_below HO6.out hbb)
 obtain⟨m0,m1,m2,m3,m4,m5,m6,m7⟩:=tok_cells ht8
 have HT8:=hide ht8
 have HLt:Hid (w6.heap.size≤w7.heap.size):=hb7.size
 have HG1:Hid (g1<w6.heap.size):=by
  rcases HO6.out.2 with⟨h0,_⟩|⟨g',cap',cur,hv,hB,hh,_⟩
  ·cases h0
  ·cases hv;exact lt_of_block hh
 simp only[repT]at m0 m1 m2 m3 m4 m5 m6 m7
 simp only[tokO,repT]at hw8
 simp only[tokV,repT]
 clear HC hb7 hb8 hbb ht8 HK6 HP6 HN6 HQ6 HR6 HO6
 obtain⟨k0,k1,k2,k3,k4,k5,k6,k7⟩:=row_cells HO8.out 0 (by simp)
 simp only[List.getElem_cons_zero,Nat.zero_mul,Nat.zero_add,setN]at k0 k1 k2 k3 k4 k5 k6 k7
 go_upto_region 4 with fail
 rw[← hw8]
 clear hw8
 go_upto_region 12 with fail
 obtain⟨w9,hw9⟩:=named (w8.alloc (nvO (setN r1)))
 have hb9:Below w8.heap.size w8 w9:=by rw[hw9];exact allocB _ _
 have hv9:w9.heap[w8.heap.size]? =some (nvO (setN r1)):=by rw[hw9];exact at_new _ _
 obtain⟨wa,hwa⟩:=named (w9.alloc (nvO (setN r1)))
 have hba:Below w9.heap.size w9 wa:=by rw[hwa];exact allocB _ _
 have hka:wa.heap[w9.heap.size]? =some (nvO (setN r1)):=by rw[hwa];exact at_new _ _
 have hbb:=hb9.andT hba
 have HKa:=hide (HK8.out.trans (Kpb.of (lt_of_block HP8.out) hbb))
 have HPa:=hide (below_at hbb HP8.out)
 have HNa:=hide (below_at hbb HN8.out)
 have HQa:=hide (below_at hbb HQ8.out)
 have HRa:=hide (HR8.out.below hbb)
 have HOa:=hide (own_below HO8.out hbb)
 have HKba:=hide hka
 have hta:=tok_cells (below_at hbb HT8.out)
 have hga:∃cur,wa.heap[g1]? =some (.cells cur 32):=by
  rcases HOa.out.2 with⟨h0,_⟩|⟨g',cap',cur,hv,hB,hh,_⟩
  ·cases h0
  ·cases hv;exact⟨cur,hh⟩
 obtain⟨cur,hcur⟩:=hga
 have fga:∀o,wa.frozen? ⟨g1,o,none⟩=false:=fun o=>by simp[World.frozen?,hcur]
 obtain⟨b0,b1,b2,b3,b4,b5,b6,b7⟩:=nv_cells hv9
 obtain⟨t0,t1,t2,t3,t4,t5,t6,t7⟩:=hta
 obtain⟨q0,q1,q2,q3,q4,q5,q6,q7⟩:=row_cells HOa.out 0 (by simp)
 simp only[List.getElem_cons_zero,Nat.zero_mul,Nat.zero_add,setN]at q0 q1 q2 q3 q4 q5 q6 q7 b0 b1 b2 b3 b4 b5 b6 b7
 simp only[repT]at t0 t1 t2 t3 t4 t5 t6 t7
 have HL9:Hid (w8.heap.size≤w9.heap.size∧w9.heap.size<wa.heap.size∧g1<w8.heap.size):=⟨hb9.size,lt_of_block hka,by have:=HG1.out;have:=HLt.out;have:=lt_of_block HT8.out;omega⟩
 obtain⟨kb,hkb⟩:=named w9.heap.size
 rw[← hkb]at HKba HL9
 obtain⟨wb,hwb⟩:=named (nset wa g1 (repN kb))
 simp only[nvO]at hw9 hwa
 rw[← hw9]
 clear hw9 hb9 hv9 hba hka hbb HK8 HP8 HN8 HQ8 HR8 HO8 k0 k1 k2 k3 k4 k5 k6 k7 m0 m1 m2 m3 m4 m5 m6 m7 hcur
 have hg9:g1≠w9.heap.size:=by have:=HL9.out;omega
 have h79:w7.heap.size≠w9.heap.size:=by have:=HL9.out;have:=lt_of_block HT8.out;omega
 rw[hwa]at t0 t1 t2 t3 t4 t5 t6 t7 q0 q1 q2 q3 q4 q5 q6 q7 fga
 have HWA:=hide hwa
 have HKB:=hide hkb
 clear hwa hkb
 go_upto_region 13 with fail
 rw[← HWA.out, ←HKB.out]
 have hwb2:=hwb
 simp only[nset]at hwb2
 rw[← hwb2]
 clear hwb2
 have HGB:Hid (w5.heap.size≤g1):=own_ge HOa.out
 have hl5:=HL5.out
 have hgb:=HGB.out
 have hn5:=lt_of_block HNa.out
 have h9:=HL9.out
 have hPb:wb.heap[pb]? =some (prsO x c 1):=by rw[hwb,nset_keep _ (by omega)];exact HPa.out
 obtain⟨wc,hwc⟩:=named (wb.setCell ⟨pb,2,none⟩ (.int .i64 2))
 have kp:∀b o,wa.heap[b]? =some o→b≠g1→b≠pb→wc.heap[b]? =some o:=fun b o hb h1 h2=>by
  rw[hwc]
  refine(Kpb.set (w:=wb) 2 (.int .i64 2)).keep b o ?_ h2
  rw[hwb,nset_keep _ h1];exact hb
 have HKc:Hid (Kpb pb w wc):=by show Kpb _ _ _;rw[hwc,hwb];exact(HKa.out.nset (by omega) hlt _).trans (Kpb.set 2 _)
 have HPc:Hid (wc.heap[pb]? =some (prsO x c 2)):=by show _=_;rw[hwc];exact prs_set hPb 2
 have HQc:Hid (wc.heap[r1]? =some (rgO 97)):=kp _ _ HQa.out (by omega) (by have:=HL4.out;omega)
 have HKbc:Hid (wc.heap[kb]? =some (nvO (setN r1))):=kp _ _ HKba.out (by omega) (by omega)
 have HNc:Hid (wc.heap[w.heap.size]? =some (nvO nvZ)):=kp _ _ HNa.out (by omega) (by omega)
 have HRc:Hid (ReadsI wc x abL):=by
  refine HRa.out.blk ?_
  have hxa:x.block<wa.heap.size:=by have:=HKa.out.size;omega
  rw[Array.getElem?_eq_getElem hxa]
  exact kp _ _ (Array.getElem?_eq_getElem hxa) (by omega) hx
 have HOc:Hid (wc.ownsRow w5.heap.size 32 8 (.slice (some ⟨g1,0,none⟩) 1 c1) 1 (rowQ [repN kb])):=by
  have h1:wb.ownsRow w5.heap.size 32 8 (.slice (some ⟨g1,0,none⟩) 1 c1) 1 (rowQ [repN kb]):=by rw[hwb];exact own_nset HOa.out
  refine own_blk h1 (fun o ho=>?_)
  rw[hwc]
  exact(Kpb.set (w:=wb) 2 (.int .i64 2)).keep _ _ ho (by omega)
 obtain⟨p0,p1,p2,p3,p4,p5,p6,p7,p8,p9,p10,p11⟩:=prs_cells hPb
 have fpb:∀o,wb.frozen? ⟨pb,o,none⟩=false:=fun o=>by simp[World.frozen?,hPb]
 have HL6:Hid (w.heap.size<r1∧r1<w5.heap.size∧w5.heap.size≤g1∧g1<kb∧w.heap.size<w5.heap.size):=⟨HL4.out,by omega,by omega,by omega,by omega⟩
 clear kp hPb hwb HKa HPa HNa HQa HRa HOa HKba t0 t1 t2 t3 t4 t5 t6 t7 q0 q1 q2 q3 q4 q5 q6 q7 fga b0 b1 b2 b3 b4 b5 b6 b7 hl5 hgb hn5 h9 HWA HKB hg9 h79 HG1 HLt HT8 HL4 HL5 HL9 HGB
 go_wp2
 rw[← hwc]
 clear hwc p0 p1 p2 p3 p4 p5 p6 p7 p8 p9 p10 p11 fpb wb
 -- the third round
 have HC:=hide (token_2 pb x c wc HPc.out HRc.out)
 rw[rounds_succ]
 go_wp2_with fail
 refine HC.out.mono ?_
 rintro e wd ⟨rfl,hbd⟩
 obtain⟨we,hwe⟩:=named (wd.alloc (tokO (pointT 98)))
 have hbe:Below wd.heap.size wd we:=by rw[hwe];exact allocB _ _
 have hbb:=hbd.andT hbe
 have hte:we.heap[wd.heap.size]? =some (tokO (pointT 98)):=by rw[hwe];exact at_new _ _
 have HKe:=hide (HKc.out.trans (Kpb.of (lt_of_block HPc.out) hbb))
 have HPe:=hide (below_at hbb HPc.out)
 have HNe:=hide (below_at hbb HNc.out)
 have HQe:=hide (below_at hbb HQc.out)
 have HKbe:=hide (below_at hbb HKbc.out)
 have HRe:=hide (HRc.out.below hbb)
 have HOe:=hide (own_below HOc.out hbb)
 have HTe:=hide hte
 have HLe:Hid (kb<wd.heap.size):=Nat.lt_of_lt_of_le (lt_of_block HKbc.out) hbd.size
 obtain⟨m0,m1,m2,m3,m4,m5,m6,m7⟩:=tok_cells hte
 simp only[pointT]at m0 m1 m2 m3 m4 m5 m6 m7
 simp only[tokO,pointT]at hwe
 simp only[tokV,pointT]
 have HC2:=hide (atom_pt 98 pb x c 2 3 we HPe.out)
 simp only[tokV,pointT]at HC2
 clear HC hbd hbe hbb hte HKc HPc HNc HQc HKbc HRc HOc
 go_upto_region 4 with fail
 rw[← hwe]
 clear hwe
 go_wp2_with fail
 refine HC2.out.mono ?_
 rintro e wf ⟨r2,rfl,hr2,hq2,hPf,hkf⟩
 have hl6:=HL6.out
 have hle:=HLe.out
 have HKf:=hide (HKe.out.trans hkf)
 have HNf:=hide (hkf.keep _ _ HNe.out (by omega))
 have HQf:=hide (hkf.keep _ _ HQe.out (by omega))
 have HKbf:=hide (hkf.keep _ _ HKbe.out (by omega))
 have HTf:=hide (hkf.keep _ _ HTe.out (by omega))
 have HRf:=hide (HRe.out.kpb hkf hx)
 have HOf:=hide (own_blk HOe.out (fun o ho=>hkf.keep _ _ ho (by omega)))
 have HPf:=hide hPf
 have HQ2f:=hide hq2
 have HLr:Hid (kb<r2∧w.heap.size<r2):=⟨by have:=lt_of_block HTe.out;omega,by have:=lt_of_block HTe.out;omega⟩
 clear HC2 hkf hPf hq2 hr2 HKe HPe HNe HQe HKbe HRe HOe HTe m0 m1 m2 m3 m4 m5 m6 m7
 obtain⟨wg,hwg⟩:=named (wf.alloc (nvO (setN r2)))
 have hbg:Below wf.heap.size wf wg:=by rw[hwg];exact allocB _ _
 have hsg:wg.heap[wf.heap.size]? =some (nvO (setN r2)):=by rw[hwg];exact at_new _ _
 obtain⟨g2,c2,wh,hrun,hoh,hgh⟩:=app_one (B:=w5.heap.size) (xs:=[repN kb]) (by have:=own_lt HOf.out;have:=hbg.size;omega) (own_below HOf.out hbg) hsg (by omega)
 have hkg:=HKf.out.trans (Kpb.of (lt_of_block HPf.out) hbg)
 have hrow:∀b:Nat,b≠g1→some b≠(Value.slice (some ⟨g1,0,none⟩) 1 c1).ownBlock:=fun b hb h=>hb (by simpa[Value.ownBlock]using h)
 have HKh:=hide (hkg.grown hlt hgh (fun k hk=>by simp[Value.ownBlock]at hk;omega))
 have HNh:=hide (grown_blk hgh (below_at hbg HNf.out) (hrow _ (by omega)))
 have HTh:=hide (grown_blk hgh (below_at hbg HTf.out) (hrow _ (by omega)))
 have HPh:=hide (grown_blk hgh (below_at hbg HPf.out) (hrow _ (by omega)))
 have HQh:=hide (grown_blk hgh (below_at hbg HQf.out) (hrow _ (by omega)))
 have HKbh:=hide (grown_blk hgh (below_at hbg HKbf.out) (hrow _ (by omega)))
 have HQ2h:=hide (grown_blk hgh (below_at hbg HQ2f.out) (hrow _ (by have:=HLr.out;omega)))
 have HRh:=hide ((HRf.out.below hbg).grown hgh (hrow _ (by omega)))
 have HOh:=hide hoh
 have HRun:=hide hrun
 simp only[nvO]at hwg
 simp only[nvV]
 clear hbg hsg hrun hoh hgh hkg hrow HKf HNf HTf HPf HQf HKbf HQ2f HRf HOf hl6 hle
 obtain⟨m0,m1,m2,m3,m4,m5,m6,m7⟩:=tok_cells HTh.out
 simp only[pointT]at m0 m1 m2 m3 m4 m5 m6 m7
 rw[hwg]at HRun
 go_wp2_with (at_builtin;refine wpList_run rfl _ _ 30 rfl _ _ _ _ rfl rfl HRun.out ?_)
 clear m0 m1 m2 m3 m4 m5 m6 m7 HRun hwg HTh HLe
 simp only[List.cons_append,List.nil_append]at HOh
 -- the fourth round
 have HC:=hide (token_3 pb x c wh HPh.out)
 rw[rounds_succ]
 go_wp2_with fail
 refine HC.out.mono ?_
 rintro e wi ⟨rfl,hbi⟩
 obtain⟨wj,hwj⟩:=named (wi.alloc (tokO {}))
 have hbj:Below wi.heap.size wi wj:=by rw[hwj];exact allocB _ _
 have hbb:=hbi.andT hbj
 have htj:wj.heap[wi.heap.size]? =some (tokO {}):=by rw[hwj];exact at_new _ _
 have HKj:=hide (HKh.out.trans (Kpb.of (lt_of_block HPh.out) hbb))
 have HPj:=hide (below_at hbb HPh.out)
 have HNj:=hide (below_at hbb HNh.out)
 have HQj:=hide (below_at hbb HQh.out)
 have HQ2j:=hide (below_at hbb HQ2h.out)
 have HKbj:=hide (below_at hbb HKbh.out)
 have HRj:=hide (HRh.out.below hbb)
 have HOj:=hide (own_below HOh.out hbb)
 obtain⟨m0,m1,m2,m3,m4,m5,m6,m7⟩:=tok_cells htj
 obtain⟨a0,a1,a2,a3,a4,a5,a6,a7⟩:=row_cells HOj.out 0 (by simp)
 obtain⟨z0,z1,z2,z3,z4,z5,z6,z7⟩:=row_cells HOj.out 1 (by simp)
 simp only[List.getElem_cons_zero,List.getElem_cons_succ,Nat.zero_mul,Nat.zero_add,Nat.one_mul,setN,repN]at a0 a1 a2 a3 a4 a5 a6 a7 z0 z1 z2 z3 z4 z5 z6 z7
 simp only[tokO]at hwj
 simp only[tokV]
 clear HC hbi hbj hbb htj HKh HPh HNh HQh HQ2h HKbh HRh HOh
 go_upto_region 4 with fail
 rw[← hwj]
 clear hwj
 go_wp2
 have hl6:=HL6.out
 have hlr:=HLr.out
 -- the row that goes out: its first node
 obtain⟨wk,hwk⟩:=named (wj.alloc (nvO (repN kb)))
 have hbk:Below wj.heap.size wj wk:=by rw[hwk];exact allocB _ _
 have hsk:wk.heap[wj.heap.size]? =some (nvO (repN kb)):=by rw[hwk];exact at_new _ _
 obtain⟨g3,c3,wl,hrun,hol,hgl⟩:=app_one (B:=wk.heap.size) (v:=.slice none 0 0) (n:=0) (xs:=[]) (leR _) ⟨rfl,.inl ⟨rfl,rfl⟩⟩ hsk (by omega)
 have hkk:=HKj.out.trans (Kpb.of (lt_of_block HPj.out) hbk)
 have hrow:∀b:Nat,some b≠(Value.slice none 0 0).ownBlock:=fun b h=>by simp[Value.ownBlock]at h
 have HKl:=hide (hkk.grown hlt hgl (fun k hk=>by cases hk))
 have HNl:=hide (grown_blk hgl (below_at hbk HNj.out) (hrow _))
 have HPl:=hide (grown_blk hgl (below_at hbk HPj.out) (hrow _))
 have HQl:=hide (grown_blk hgl (below_at hbk HQj.out) (hrow _))
 have HQ2l:=hide (grown_blk hgl (below_at hbk HQ2j.out) (hrow _))
 have HKbl:=hide (grown_blk hgl (below_at hbk HKbj.out) (hrow _))
 have HRl:=hide ((HRj.out.below hbk).grown hgl (hrow _))
 have HO2l:=hide (own_blk (own_below HOj.out hbk) (fun o ho=>grown_blk hgl ho (hrow _)))
 have HOl:=hide hol
 have HRun:=hide hrun
 have HLk:Hid (g2<wk.heap.size∧kb<wk.heap.size∧r1<wk.heap.size∧r2<wk.heap.size∧w.heap.size<wk.heap.size):=⟨own_lt (own_below HOj.out hbk),lt_of_block (below_at hbk HKbj.out),lt_of_block (below_at hbk HQj.out),lt_of_block (below_at hbk HQ2j.out),lt_of_block (below_at hbk HNj.out)⟩
 simp only[nvO]at hwk
 simp only[List.nil_append,Nat.zero_add]at HRun HOl
 rw[hwk]at HRun
 clear hbk hsk hrun hol hgl hkk hrow HKj HNj HPj HQj HQ2j HKbj HRj HOj m0 m1 m2 m3 m4 m5 m6 m7
 refine wp_loop_rounds 3 ?_
 rw[rounds_succ]
 go_wp2_with (at_builtin;refine wpList_run rfl _ _ 30 rfl _ _ _ _ rfl rfl HRun.out ?_)
 -- its second node
 clear HRun hwk a0 a1 a2 a3 a4 a5 a6 a7 z0 z1 z2 z3 z4 z5 z6 z7
 obtain⟨z0,z1,z2,z3,z4,z5,z6,z7⟩:=row_cells HO2l.out 1 (by simp)
 simp only[List.getElem_cons_zero,List.getElem_cons_succ,Nat.one_mul,setN,repN]at z0 z1 z2 z3 z4 z5 z6 z7
 have hlk:=HLk.out
 obtain⟨wm,hwm⟩:=named (wl.alloc (nvO (setN r2)))
 have hbm:Below wl.heap.size wl wm:=by rw[hwm];exact allocB _ _
 have hsm:wm.heap[wl.heap.size]? =some (nvO (setN r2)):=by rw[hwm];exact at_new _ _
 obtain⟨g4,c4,wn,hrun,hon,hgn⟩:=app_one (B:=wk.heap.size) (xs:=[repN kb]) (by have:=own_lt HOl.out;have:=own_ge HOl.out;have:=hbm.size;omega) (own_below HOl.out hbm) hsm (by omega)
 have hge:=own_ge HOl.out
 have hrow:∀b:Nat,b<wk.heap.size→some b≠(Value.slice (some ⟨g3,0,none⟩) 1 c3).ownBlock:=fun b hb h=>by simp[Value.ownBlock]at h;omega
 have hkm:=HKl.out.trans (Kpb.of (lt_of_block HPl.out) hbm)
 have HKn:=hide (hkm.grown hlt hgn (fun k hk=>by simp[Value.ownBlock]at hk;omega))
 have hNn:=grown_blk hgn (below_at hbm HNl.out) (hrow _ (by omega))
 have HPn:=hide (grown_blk hgn (below_at hbm HPl.out) (hrow _ (by omega)))
 have HQn:=hide (grown_blk hgn (below_at hbm HQl.out) (hrow _ (by omega)))
 have HQ2n:=hide (grown_blk hgn (below_at hbm HQ2l.out) (hrow _ (by omega)))
 have HKbn:=hide (grown_blk hgn (below_at hbm HKbl.out) (hrow _ (by omega)))
 have HRn:=hide ((HRl.out.below hbm).grown hgn (hrow _ (by omega)))
 have HNn:=hide hNn
 have HOn:=hide hon
 have HRun:=hide hrun
 have HG4:Hid (wk.heap.size≤g4):=own_ge hon
 obtain⟨d0,d1,d2,d3,d4,d5,d6,d7⟩:=nv_cells hNn
 simp only[Nat.zero_add]at d0 d1 d2 d3 d4 d5 d6 d7
 have fz:∀o,wn.frozen? ⟨w.heap.size,o,none⟩=false:=fun o=>by simp[World.frozen?,hNn]
 simp only[nvO]at hwm
 simp only[List.cons_append,List.nil_append]at HOn
 rw[hwm]at HRun
 clear hbm hsm hrun hon hgn hkm hrow hNn HKl HNl HPl HQl HQ2l HKbl HRl HOl HO2l hlk hge
 rw[rounds_succ]
 go_wp2_with (at_builtin;refine wpList_run rfl _ _ 30 rfl _ _ _ _ rfl rfl HRun.out ?_)
 clear HRun hwm z0 z1 z2 z3 z4 z5 z6 z7
 rw[rounds_succ]
 go_wp2
 have hlk:=HLk.out
 have hg4:=HG4.out
 obtain⟨n9,hn9⟩:∃n9:NV,n9=⟨9,none,0,0,some ⟨g4,0,none⟩,2,c4,0,0,0,0,false⟩:=⟨_,rfl⟩
 have kp:∀b o,wn.heap[b]? =some o→b≠w.heap.size→(nset wn w.heap.size n9).heap[b]? =some o:=fun b o hb h=>by rw[nset_keep _ h];exact hb
 subst hn9
 exact ret_node (N:=w.heap.size) (W:=nset wn w.heap.size ⟨9,none,0,0,some ⟨g4,0,none⟩,2,c4,0,0,0,0,false⟩) (n:=⟨9,none,0,0,some ⟨g4,0,none⟩,2,c4,0,0,0,0,false⟩) rfl rfl (nv_cells (nv_set HNn.out _)) ⟨kb,r1,r2,g4,c4,rfl,kp _ _ HPn.out (by omega),own_base (own_blk HOn.out (fun o ho=>kp _ _ ho (by omega))) (by omega),kp _ _ HKbn.out (by omega),kp _ _ HQn.out (by omega),kp _ _ HQ2n.out (by omega),HRn.out.blk (nset_keep _ (by omega)),HKn.out.nset (leR _) hlt _,by omega,by omega,by omega⟩
end Go.Proofs.YtfnndcbjklppeaaGreatDoor
