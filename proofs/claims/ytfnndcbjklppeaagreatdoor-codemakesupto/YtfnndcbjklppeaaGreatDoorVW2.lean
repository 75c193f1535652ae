import Derived.Test.YtfnndcbjklppeaaGreatDoorVV2
import Derived.Test.YtfnndcbjklppeaaGreatDoorVL2
import Derived.Test.YtfnndcbjklppeaaGreatDoorVO2
import Derived.StillTailTactics
set_option maxHeartbeats 8000000
set_option maxRecDepth 1000000
set_option linter.unusedVariables false
open Go.Proofs.Tryz
namespace Go.Proofs.YtfnndcbjklppeaaGreatDoor
open Go.RowKit
theorem pattern_ab(pb:Nat)(x:Addr)(c:Nat)(w:World)(hP:w.heap[pb]? =some (prsO x c 0))(hr:ReadsI w x abL)(hx:x.block≠pb)(hxl:x.block<w.heap.size):Calls prog 27 #[.pointer (some ⟨pb,0,none⟩)] w fun e w'=>∃kb r1 r2 g c4,e=.returned (nvV ⟨9,none,0,0,some ⟨g,0,none⟩,2,c4,0,0,0,0,false⟩)∧w'.heap[pb]? =some (prsO x c 3)∧w'.ownsRow w.heap.size 32 8 (.slice (some ⟨g,0,none⟩) 2 c4) 2 (rowQ [repN kb,setN r2])∧w'.heap[kb]? =some (nvO (setN r1))∧w'.heap[r1]? =some (rgO 97)∧w'.heap[r2]? =some (rgO 98)∧ReadsI w' x abL∧Kpb pb w w'∧w.heap.size≤r1∧w.heap.size≤r2∧w.heap.size≤kb:=by
 have hlt:=lt_of_block hP
 obtain⟨w1,hw1⟩:=named (w.alloc (nvO nvZ))
 have hb1:Below w.heap.size w w1:=by rw[hw1];exact allocB _ _
 have hx1:w1.heap[w.heap.size]? =some (nvO nvZ):=by rw[hw1];exact at_new _ _
 have HK1:=hide (Kpb.of hlt hb1)
 have HP1:=hide (below_at hb1 hP)
 have HN1:=hide hx1
 have HC:=hide (branch_ab pb x c w1 HP1.out (hr.below hb1) hx (Nat.lt_of_lt_of_le hxl hb1.size))
 have HS1:Hid (w1.heap.size=w.heap.size+1):=by show _=_;rw[hw1];simp
 simp only[nvO]at hw1
 obtain⟨p0,p1,p2,p3,p4,p5,p6,p7,p8,p9,p10,p11⟩:=prs_cells HP1.out
 clear hb1 hx1 hP hr
 go_enter func27,ntmps27
 go_upto_region 1 with fail
 rw[← hw1]
 clear hw1
 go_wp2
 refine wp_loop_rounds 1 ?_
 rw[rounds_succ]
 go_wp2_with fail
 refine HC.out.mono ?_
 rintro e w2 ⟨kb,r1,r2,g,c4,rfl,hP2,hO2,hkb,hr1,hr2,hR2,hK2,h1,h2,h3⟩
 have hs1:=HS1.out
 have hN2:=hK2.keep _ _ HN1.out (by omega)
 have hlt2:=lt_of_block hP2
 have hk02:=HK1.out.trans hK2
 -- the node's box
 obtain⟨n9,hn9⟩:∃n9:NV,n9=⟨9,none,0,0,some ⟨g,0,none⟩,2,c4,0,0,0,0,false⟩:=⟨_,rfl⟩
 obtain⟨w3,hw3⟩:=named (w2.alloc (nvO n9))
 have hb3:Below w2.heap.size w2 w3:=by rw[hw3];exact allocB _ _
 have hv3:w3.heap[w2.heap.size]? =some (nvO n9):=by rw[hw3];exact at_new _ _
 obtain⟨w4,hw4⟩:=named (w3.alloc (nvO n9))
 have hb4:Below w3.heap.size w3 w4:=by rw[hw4];exact allocB _ _
 have hs4:w4.heap[w3.heap.size]? =some (nvO n9):=by rw[hw4];exact at_new _ _
 have hbb:=hb3.andT hb4
 obtain⟨g5,c5,w5,hrun,ho5,hg5⟩:=app_one (B:=w4.heap.size) (v:=.slice none 0 0) (n:=0) (xs:=[]) (leR _) ⟨rfl,.inl ⟨rfl,rfl⟩⟩ hs4 (by omega)
 have hrow:∀b:Nat,some b≠(Value.slice none 0 0).ownBlock:=fun b h=>by simp[Value.ownBlock]at h
 have kp:∀b o,w2.heap[b]? =some o→w5.heap[b]? =some o:=fun b o hb=>grown_blk hg5 (below_at hbb hb) (hrow _)
 have HK5:=hide ((hk02.trans (Kpb.of hlt2 hbb)).grown hlt hg5 (fun k hk=>by cases hk))
 have HP5:=hide (kp _ _ hP2)
 have HN5:=hide (kp _ _ hN2)
 have HQ5:=hide (kp _ _ hr1)
 have HQ25:=hide (kp _ _ hr2)
 have HKb5:=hide (kp _ _ hkb)
 have HO25:=hide (own_blk hO2 (fun o ho=>kp _ _ ho))
 have HR5:=hide ((hR2.below hbb).grown hg5 (hrow _))
 have HO5:=hide ho5
 have HRun:=hide hrun
 have HL:Hid (w.heap.size<r1∧w.heap.size<r2∧w.heap.size<kb∧w.heap.size<g∧w.heap.size<g5):=by
  have:=own_ge hO2
  have:=own_ge ho5
  have:=lt_of_block (below_at hbb hN2)
  exact⟨by omega,by omega,by omega,by omega,by omega⟩
 obtain⟨d0,d1,d2,d3,d4,d5,d6,d7⟩:=nv_cells hv3
 simp only[Nat.zero_add,hn9]at d0 d1 d2 d3 d4 d5 d6 d7
 simp only[List.nil_append,Nat.zero_add]at HRun HO5
 simp only[nvO,hn9]at hw3 hw4
 have HC3:=hide (token_3 pb x c w5 HP5.out)
 rw[hw4]at HRun
 clear HC hP2 hO2 hkb hr1 hr2 hR2 hK2 h1 h2 h3 hN2 hk02 hb3 hv3 hb4 hs4 hbb hrun ho5 hg5 hrow kp p0 p1 p2 p3 p4 p5 p6 p7 p8 p9 p10 p11 HK1 HP1 HN1
 simp only[nvV]
 go_upto_region 4 with fail
 rw[← hw3]
 clear hw3
 go_wp2_with (at_builtin;refine wpList_run rfl _ _ 30 rfl _ _ _ _ rfl rfl HRun.out ?_)
 refine HC3.out.mono ?_
 rintro e w6 ⟨rfl,hb6⟩
 obtain⟨w7,hw7⟩:=named (w6.alloc (tokO {}))
 have hb7:Below w6.heap.size w6 w7:=by rw[hw7];exact allocB _ _
 have hbb:=hb6.andT hb7
 have ht7:w7.heap[w6.heap.size]? =some (tokO {}):=by rw[hw7];exact at_new _ _
 have hP7:=below_at hbb HP5.out
 obtain⟨w8,hw8⟩:=named (w7.setCell ⟨pb,3,none⟩ (.bool false))
 have kp:∀b o,w5.heap[b]? =some o→b≠pb→w8.heap[b]? =some o:=fun b o hb h=>by rw[hw8];exact(Kpb.set (w:=w7) 3 (.bool false)).keep b o (below_at hbb hb) h
 have hl:=HL.out
 have HK8:Hid (Kpb pb w w8):=by show Kpb _ _ _;rw[hw8];exact(HK5.out.trans (Kpb.of (lt_of_block HP5.out) hbb)).trans (Kpb.set 3 _)
 have HP8:Hid (w8.heap[pb]? =some (prsO x c 3)):=by show _=_;rw[hw8];exact prs_fold hP7
 have hN8:=kp _ _ HN5.out (by omega)
 have HQ8:=hide (kp _ _ HQ5.out (by omega))
 have HQ28:=hide (kp _ _ HQ25.out (by omega))
 have HKb8:=hide (kp _ _ HKb5.out (by omega))
 have HO28:=hide (own_blk HO25.out (fun o ho=>kp _ _ ho (by omega)))
 have HO8:=own_blk HO5.out (fun o ho=>kp _ _ ho (by omega))
 have HR8:Hid (ReadsI w8 x abL):=by
  refine HR5.out.blk ?_
  have hxa:x.block<w5.heap.size:=by have:=HK5.out.size;omega
  rw[Array.getElem?_eq_getElem hxa]
  exact kp _ _ (Array.getElem?_eq_getElem hxa) hx
 obtain⟨m0,m1,m2,m3,m4,m5,m6,m7⟩:=tok_cells ht7
 obtain⟨p0,p1,p2,p3,p4,p5,p6,p7,p8,p9,p10,p11⟩:=prs_cells hP7
 have fpb:∀o,w7.frozen? ⟨pb,o,none⟩=false:=fun o=>by simp[World.frozen?,hP7]
 obtain⟨d0,d1,d2,d3,d4,d5,d6,d7⟩:=nv_cells hN8
 obtain⟨q0,q1,q2,q3,q4,q5,q6,q7⟩:=row_cells HO8 0 (by simp)
 simp only[List.getElem_cons_zero,Nat.zero_mul,Nat.zero_add,hn9]at d0 d1 d2 d3 d4 d5 d6 d7 q0 q1 q2 q3 q4 q5 q6 q7
 have fz:∀o,w8.frozen? ⟨w.heap.size,o,none⟩=false:=fun o=>by simp[World.frozen?,hN8]
 have HN8:=hide hN8
 have HN9:=hide hn9
 simp only[tokO]at hw7
 simp only[tokV]
 clear HC3 hb6 hb7 hbb ht7 hP7 kp hl HK5 HP5 HN5 HQ5 HQ25 HKb5 HO25 HO5 HR5 HRun hN8 HO8 hw4 hn9
 go_upto_region 8 with fail
 rw[← hw7]
 clear hw7
 go_upto_region 11 with fail
 rw[← hw8]
 clear hw8 m0 m1 m2 m3 m4 m5 m6 m7 p0 p1 p2 p3 p4 p5 p6 p7 p8 p9 p10 p11 fpb
 go_wp2
 have hl:=HL.out
 have kp:∀b o,w8.heap[b]? =some o→b≠w.heap.size→(nset w8 w.heap.size n9).heap[b]? =some o:=fun b o hb h=>by rw[nset_keep _ h];exact hb
 have hn9:=HN9.out
 subst hn9
 exact ret_node (N:=w.heap.size) (W:=nset w8 w.heap.size ⟨9,none,0,0,some ⟨g,0,none⟩,2,c4,0,0,0,0,false⟩) (n:=⟨9,none,0,0,some ⟨g,0,none⟩,2,c4,0,0,0,0,false⟩) rfl rfl (nv_cells (nv_set HN8.out _)) ⟨kb,r1,r2,g,c4,rfl,kp _ _ HP8.out (by omega),own_base (own_blk HO28.out (fun o ho=>kp _ _ ho (by omega))) (by have:=HS1.out;omega),kp _ _ HKb8.out (by omega),kp _ _ HQ8.out (by omega),kp _ _ HQ28.out (by omega),HR8.out.blk (nset_keep _ (by omega)),HK8.out.nset (leR _) hlt _,by omega,by omega,by omega⟩
theorem numbered_leaf(n:NV)(v:Value)(hv:v=.slice none 0 0)(w:World)(hk:n.kind≠18)(h0:n.kl=0):Calls prog 29 #[nvV n,v] w fun e w'=>e=.returned (nvV { n with ka:=none,kl:=0,kc:=0 })∧Below w.heap.size w w':=by
 subst hv
 obtain⟨kind,sa,sl,sc,ka,kl,kc,num,least,most,way,fold⟩:=n
 simp only at hk h0
 subst h0
 have bk:(kind==18)=false:=by simpa using hk
 obtain⟨w1,hw1⟩:=named ((w.alloc (nvO ⟨kind,sa,sl,sc,ka,0,kc,num,least,most,way,fold⟩)).alloc (nvO nvZ))
 have hb1:Below w.heap.size w w1:=by rw[hw1];exact two_below _ _ _
 have hx1:w1.heap[w.heap.size]? =some (nvO ⟨kind,sa,sl,sc,ka,0,kc,num,least,most,way,fold⟩):=by rw[hw1];exact at_old (at_new _ _)
 have hx2:w1.heap[w.heap.size+1]? =some (nvO nvZ):=by rw[hw1];exact at_new' _ _ (by simp)
 obtain⟨w2,hw2⟩:=named (w1.setCell ⟨w.heap.size,2,none⟩ (.slice none 0 0))
 have hx3:w2.heap[w.heap.size]? =some (nvO ⟨kind,sa,sl,sc,none,0,0,num,least,most,way,fold⟩):=by rw[hw2,set_oneQ hx1];simp
 have hx4:w2.heap[w.heap.size+1]? =some (nvO nvZ):=by rw[hw2,Below.heap_setCell _ _ _ _ (by simp)];exact hx2
 have HB2:Hid (Below w.heap.size w w2):=by show Below _ _ _;rw[hw2];exact hb1.setCell (p:=⟨w.heap.size,2,none⟩) (leR _) _
 have HX4:=hide hx4
 obtain⟨a0,a1,a2,a3,a4,a5,a6,a7⟩:=nv_cells hx1
 obtain⟨b0,b1,b2,b3,b4,b5,b6,b7⟩:=nv_cells hx3
 obtain⟨d0,d1,d2,d3,d4,d5,d6,d7⟩:=nv_cells hx4
 have f1:∀o,w1.frozen? ⟨w.heap.size,o,none⟩=false:=fun o=>by simp[World.frozen?,hx1]
 have f2:∀o,w2.frozen? ⟨w.heap.size+1,o,none⟩=false:=fun o=>by simp[World.frozen?,hx4]
 simp only[Nat.zero_add]at a0 a1 a2 a3 a4 a5 a6 a7 b0 b1 b2 b3 b4 b5 b6 b7 d0 d1 d2 d3 d4 d5 d6 d7
 simp only[nvO]at hw1
 simp only[nvV]
 clear hk hb1 hx1 hx2 hx3 hx4
 go_enter func29,ntmps29
 go_upto_region 1 with fail
 rw[← hw1]
 clear hw1
 go_wp2
 refine wp_loop_rounds 1 ?_
 rw[rounds_succ]
 go_upto_region 9 with fail
 rw[← hw2]
 clear hw2 a0 a1 a2 a3 a4 a5 a6 a7 f1
 go_wp2
 exact ret_node (N:=w.heap.size+1) (W:=nset w2 (w.heap.size+1) ⟨kind,sa,sl,sc,none,0,0,num,least,most,way,fold⟩) (n:=⟨kind,sa,sl,sc,none,0,0,num,least,most,way,fold⟩) rfl rfl (nv_cells (nv_set HX4.out _)) ⟨rfl,below_tok HB2.out (by omega) _ _ _ _ _ _ _ _⟩
theorem Below.grownF{w W W':World}{row:Option Nat}(h:Below w.heap.size w W)(hg:W.grownBy W' row)(hr:∀k,row=some k→w.heap.size≤k):Below w.heap.size w W':=h.grown hg h.size hr
theorem numbered_rep(kb r1:Nat)(w:World)(hkb:w.heap[kb]? =some (nvO (setN r1))):Calls prog 29 #[nvV (repN kb),.slice none 0 0] w fun e w'=>∃g c',e=.returned (nvV ⟨12,none,0,0,some ⟨g,0,none⟩,1,c',0,1, -1,1,false⟩)∧w'.ownsRow w.heap.size 32 8 (.slice (some ⟨g,0,none⟩) 1 c') 1 (rowQ [setN r1])∧Below w.heap.size w w':=by
 obtain⟨w1,hw1⟩:=named ((w.alloc (nvO (repN kb))).alloc (nvO nvZ))
 have hb1:Below w.heap.size w w1:=by rw[hw1];exact two_below _ _ _
 have hx1:w1.heap[w.heap.size]? =some (nvO (repN kb)):=by rw[hw1];exact at_old (at_new _ _)
 have hx2:w1.heap[w.heap.size+1]? =some (nvO nvZ):=by rw[hw1];exact at_new' _ _ (by simp)
 have hkb1:=below_at hb1 hkb
 have HC:=hide (numbered_leaf (setN r1) _ rfl w1 (by simp) rfl)
 simp only[nvV]at HC
 have HB1:=hide hb1
 have HX1:=hide hx1
 have HX2:=hide hx2
 obtain⟨a0,a1,a2,a3,a4,a5,a6,a7⟩:=nv_cells hx1
 obtain⟨k0,k1,k2,k3,k4,k5,k6,k7⟩:=nv_cells hkb1
 simp only[Nat.zero_add]at a0 a1 a2 a3 a4 a5 a6 a7 k0 k1 k2 k3 k4 k5 k6 k7
 simp only[nvO]at hw1
 simp only[nvV]
 clear hb1 hx1 hx2 hkb1 hkb
 go_enter func29,ntmps29
 go_upto_region 1 with fail
 rw[← hw1]
 clear hw1
 go_wp2
 refine wp_loop_rounds 2 ?_
 rw[rounds_succ]
 go_wp2_with fail
 refine HC.out.mono ?_
 rintro e w2 ⟨rfl,hb2⟩
 obtain⟨w3,hw3⟩:=named (w2.alloc (nvO (setN r1)))
 have hb3:Below w2.heap.size w2 w3:=by rw[hw3];exact allocB _ _
 have hs3:w3.heap[w2.heap.size]? =some (nvO (setN r1)):=by rw[hw3];exact at_new _ _
 have hbb:=hb2.andT hb3
 obtain⟨g,c',w4,hrun,ho4,hg4⟩:=app_one (B:=w3.heap.size) (v:=.slice none 0 0) (n:=0) (xs:=[]) (leR _) ⟨rfl,.inl ⟨rfl,rfl⟩⟩ hs3 (by omega)
 have hrow:∀b:Nat,some b≠(Value.slice none 0 0).ownBlock:=fun b h=>by simp[Value.ownBlock]at h
 have hx3:=grown_blk hg4 (below_at hbb HX1.out) (hrow _)
 have hx4:=grown_blk hg4 (below_at hbb HX2.out) (hrow _)
 have hB4:Below w.heap.size w w4:=Below.grownF (HB1.out.andT hbb) hg4 (fun k hk=>by cases hk)
 have hge:w3.heap.size≤g:=own_ge ho4
 have hlt3:=lt_of_block (below_at hbb HX2.out)
 obtain⟨w5,hw5⟩:=named (w4.setCell ⟨w.heap.size,2,none⟩ (.slice (some ⟨g,0,none⟩) 1 c'))
 obtain⟨n',hn'⟩:∃n':NV,n'=⟨12,none,0,0,some ⟨g,0,none⟩,1,c',0,1, -1,1,false⟩:=⟨_,rfl⟩
 have hx5:w5.heap[w.heap.size]? =some (nvO n'):=by rw[hw5,set_oneQ hx3,hn'];simp
 have hx6:w5.heap[w.heap.size+1]? =some (nvO nvZ):=by rw[hw5,Below.heap_setCell _ _ _ _ (by simp)];exact hx4
 have HB5:Hid (Below w.heap.size w w5):=by show Below _ _ _;rw[hw5];exact hB4.setCell (p:=⟨w.heap.size,2,none⟩) (leR _) _
 have HO5:Hid (w5.ownsRow w.heap.size 32 8 (.slice (some ⟨g,0,none⟩) 1 c') 1 (rowQ [setN r1])):=by
  refine own_base (own_blk ho4 (fun o ho=>?_)) (by omega)
  rw[hw5,Below.heap_setCell _ _ _ _ (by simp;omega)];exact ho
 have HGn:Hid (g≠w.heap.size+1):=by show _≠_;omega
 have HRun:=hide hrun
 have HX6:=hide hx6
 obtain⟨c0,c1,c2,c3,c4,c5,c6,c7⟩:=nv_cells hx3
 obtain⟨b0,b1,b2,b3,b4,b5,b6,b7⟩:=nv_cells hx5
 obtain⟨d0,d1,d2,d3,d4,d5,d6,d7⟩:=nv_cells hx6
 have f1:∀o,w4.frozen? ⟨w.heap.size,o,none⟩=false:=fun o=>by simp[World.frozen?,hx3]
 have f2:∀o,w5.frozen? ⟨w.heap.size+1,o,none⟩=false:=fun o=>by simp[World.frozen?,hx6]
 simp only[Nat.zero_add,hn']at b0 b1 b2 b3 b4 b5 b6 b7 c0 c1 c2 c3 c4 c5 c6 c7 d0 d1 d2 d3 d4 d5 d6 d7
 simp only[Nat.zero_add]at HRun
 simp only[nvO]at hw3
 rw[hw3]at HRun
 have HN':=hide hn'
 clear HC hb2 hb3 hs3 hbb hrun ho4 hg4 hrow hx3 hx4 hB4 hge hlt3 hx5 hx6 HB1 HX1 HX2 a0 a1 a2 a3 a4 a5 a6 a7 k0 k1 k2 k3 k4 k5 k6 k7 hn'
 go_wp2_with (at_builtin;refine wpList_run rfl _ _ 30 rfl _ _ _ _ rfl rfl HRun.out ?_)
 clear HRun hw3
 rw[rounds_succ]
 go_upto_region 9 with fail
 rw[← hw5]
 clear hw5 c0 c1 c2 c3 c4 c5 c6 c7 f1
 go_wp2
 have hn':=HN'.out
 subst hn'
 exact ret_node (N:=w.heap.size+1) (W:=nset w5 (w.heap.size+1) ⟨12,none,0,0,some ⟨g,0,none⟩,1,c',0,1, -1,1,false⟩) (n:=⟨12,none,0,0,some ⟨g,0,none⟩,1,c',0,1, -1,1,false⟩) rfl rfl (nv_cells (nv_set HX6.out _)) ⟨g,c',rfl,own_blk HO5.out (fun o ho=>by rw[nset_keep _ HGn.out];exact ho),below_tok HB5.out (by omega) _ _ _ _ _ _ _ _⟩
abbrev rpN(g c:Nat):NV:=⟨12,none,0,0,some ⟨g,0,none⟩,1,c,0,1, -1,1,false⟩
abbrev rwN(g c:Nat):NV:=⟨9,none,0,0,some ⟨g,0,none⟩,2,c,0,0,0,0,false⟩
theorem numbered_row(B g c4 kb r1 r2:Nat)(w:World)(hO:w.ownsRow B 32 8 (.slice (some ⟨g,0,none⟩) 2 c4) 2 (rowQ [repN kb,setN r2]))(hkb:w.heap[kb]? =some (nvO (setN r1))):Calls prog 29 #[nvV (rwN g c4),.slice none 0 0] w fun e w'=>∃g1 c1 h c',e=.returned (nvV (rwN h c'))∧w'.ownsRow w.heap.size 32 8 (.slice (some ⟨h,0,none⟩) 2 c') 2 (rowQ [rpN g1 c1,setN r2])∧w'.ownsRow w.heap.size 32 8 (.slice (some ⟨g1,0,none⟩) 1 c1) 1 (rowQ [setN r1])∧Below w.heap.size w w':=by
 obtain⟨w1,hw1⟩:=named ((w.alloc (nvO (rwN g c4))).alloc (nvO nvZ))
 have hb1:Below w.heap.size w w1:=by rw[hw1];exact two_below _ _ _
 have hx1:w1.heap[w.heap.size]? =some (nvO (rwN g c4)):=by rw[hw1];exact at_old (at_new _ _)
 have hx2:w1.heap[w.heap.size+1]? =some (nvO nvZ):=by rw[hw1];exact at_new' _ _ (by simp)
 have hO1:=own_below hO hb1
 have HC:=hide (numbered_rep kb r1 w1 (below_at hb1 hkb))
 simp only[nvV]at HC
 have HB1:=hide hb1
 have HX1:=hide hx1
 have HX2:=hide hx2
 have HO1:=hide hO1
 have HS1:Hid (w.heap.size≤w1.heap.size):=hb1.size
 obtain⟨a0,a1,a2,a3,a4,a5,a6,a7⟩:=nv_cells hx1
 obtain⟨k0,k1,k2,k3,k4,k5,k6,k7⟩:=row_cells hO1 0 (by simp)
 simp only[List.getElem_cons_zero,Nat.zero_mul,Nat.zero_add,repN,setN]at a0 a1 a2 a3 a4 a5 a6 a7 k0 k1 k2 k3 k4 k5 k6 k7
 simp only[nvO]at hw1
 simp only[nvV]
 clear hb1 hx1 hx2 hO1 hkb hO
 go_enter func29,ntmps29
 go_upto_region 1 with fail
 rw[← hw1]
 clear hw1
 go_wp2
 refine wp_loop_rounds 3 ?_
 rw[rounds_succ]
 go_wp2_with fail
 refine HC.out.mono ?_
 rintro e w2 ⟨g1,c1,rfl,hO2,hb2⟩
 obtain⟨w3,hw3⟩:=named (w2.alloc (nvO (rpN g1 c1)))
 have hb3:Below w2.heap.size w2 w3:=by rw[hw3];exact allocB _ _
 have hs3:w3.heap[w2.heap.size]? =some (nvO (rpN g1 c1)):=by rw[hw3];exact at_new _ _
 have hbb:=hb2.andT hb3
 obtain⟨h1,c2,w4,hrun,ho4,hg4⟩:=app_one (B:=w3.heap.size) (v:=.slice none 0 0) (n:=0) (xs:=[]) (leR _) ⟨rfl,.inl ⟨rfl,rfl⟩⟩ hs3 (by omega)
 have hrow:∀b:Nat,some b≠(Value.slice none 0 0).ownBlock:=fun b h=>by simp[Value.ownBlock]at h
 have hx3:=grown_blk hg4 (below_at hbb HX1.out) (hrow _)
 have HX4:=hide (grown_blk hg4 (below_at hbb HX2.out) (hrow _))
 have HB4:Hid (Below w.heap.size w w4):=Below.grownF (HB1.out.andT hbb) hg4 (fun k hk=>by cases hk)
 have hO4:=own_blk (own_below HO1.out hbb) (fun o ho=>grown_blk hg4 ho (hrow _))
 have HOg1:=hide (own_blk (own_below hO2 hb3) (fun o ho=>grown_blk hg4 ho (hrow _)))
 have HLg:Hid (w.heap.size+1<w3.heap.size∧g1<w3.heap.size∧w.heap.size≤g1∧g1≠w.heap.size∧g1≠w.heap.size+1):=by
  have e1:=lt_of_block (below_at hbb HX2.out)
  have e2:=own_lt (own_below hO2 hb3)
  have e3:=own_ge hO2
  have e4:=lt_of_block HX2.out
  exact⟨e1,e2,by omega,by omega,by omega⟩
 have HX3:=hide hx3
 have HO4:=hide hO4
 have HOh:=hide ho4
 have HRun:=hide hrun
 have HC2:=hide (numbered_leaf (setN r2) _ rfl w4 (by simp) rfl)
 simp only[nvV]at HC2
 obtain⟨b0,b1,b2,b3,b4,b5,b6,b7⟩:=nv_cells hx3
 obtain⟨q0,q1,q2,q3,q4,q5,q6,q7⟩:=row_cells hO4 1 (by simp)
 simp only[List.getElem_cons_zero,List.getElem_cons_succ,Nat.one_mul,Nat.zero_add,repN,setN]at b0 b1 b2 b3 b4 b5 b6 b7 q0 q1 q2 q3 q4 q5 q6 q7
 simp only[List.nil_append,Nat.zero_add]at HRun HOh
 simp only[nvO]at hw3
 rw[hw3]at HRun
 clear HC hO2 hb2 hb3 hs3 hbb hrun ho4 hg4 hrow hx3 hO4 HB1 HX1 HX2 HO1 a0 a1 a2 a3 a4 a5 a6 a7 k0 k1 k2 k3 k4 k5 k6 k7
 go_wp2_with (at_builtin;refine wpList_run rfl _ _ 30 rfl _ _ _ _ rfl rfl HRun.out ?_)
 clear HRun hw3
 rw[rounds_succ]
 go_wp2_with fail
 refine HC2.out.mono ?_
 rintro e w5 ⟨rfl,hb5⟩
 have hlg:=HLg.out
 obtain⟨w6,hw6⟩:=named (w5.alloc (nvO (setN r2)))
 have hb6:Below w5.heap.size w5 w6:=by rw[hw6];exact allocB _ _
 have hs6:w6.heap[w5.heap.size]? =some (nvO (setN r2)):=by rw[hw6];exact at_new _ _
 have hbb:=hb5.andT hb6
 have hge1:=own_ge HOh.out
 obtain⟨h2,c3,w7,hrun,ho7,hg7⟩:=app_one (B:=w3.heap.size) (xs:=[rpN g1 c1]) (by have:=own_lt (own_below HOh.out hbb);omega) (own_below HOh.out hbb) hs6 (by omega)
 have hrow:∀b:Nat,b<w3.heap.size→some b≠(Value.slice (some ⟨h1,0,none⟩) 1 c2).ownBlock:=fun b hb h=>by simp[Value.ownBlock]at h;omega
 have hx7:=grown_blk hg7 (below_at hbb HX3.out) (hrow _ (by omega))
 have hx8:=grown_blk hg7 (below_at hbb HX4.out) (hrow _ (by omega))
 have hB7:Below w.heap.size w w7:=Below.grownF (HB4.out.andT hbb) hg7 (fun k hk=>by simp[Value.ownBlock]at hk;omega)
 have hOg7:=own_blk (own_below HOg1.out hbb) (fun o ho=>grown_blk hg7 ho (hrow _ (by omega)))
 have hge2:=own_ge ho7
 obtain⟨w8,hw8⟩:=named (w7.setCell ⟨w.heap.size,2,none⟩ (.slice (some ⟨h2,0,none⟩) 2 c3))
 obtain⟨n',hn'⟩:∃n':NV,n'=rwN h2 c3:=⟨_,rfl⟩
 have hx9:w8.heap[w.heap.size]? =some (nvO n'):=by rw[hw8,set_oneQ hx7,hn'];simp
 have hxa:w8.heap[w.heap.size+1]? =some (nvO nvZ):=by rw[hw8,Below.heap_setCell _ _ _ _ (by simp)];exact hx8
 have HB8:Hid (Below w.heap.size w w8):=by show Below _ _ _;rw[hw8];exact hB7.setCell (p:=⟨w.heap.size,2,none⟩) (leR _) _
 have HO8:Hid (w8.ownsRow w.heap.size 32 8 (.slice (some ⟨h2,0,none⟩) 2 c3) 2 (rowQ [rpN g1 c1,setN r2])):=by
  refine own_base (own_blk ho7 (fun o ho=>?_)) (by omega)
  rw[hw8,Below.heap_setCell _ _ _ _ (by simp;omega)];exact ho
 have HOg8:Hid (w8.ownsRow w.heap.size 32 8 (.slice (some ⟨g1,0,none⟩) 1 c1) 1 (rowQ [setN r1])):=by
  refine own_base (own_blk hOg7 (fun o ho=>?_)) HS1.out
  rw[hw8,Below.heap_setCell _ _ _ _ (by simp;omega)];exact ho
 have HGn:Hid (h2≠w.heap.size+1∧g1≠w.heap.size+1):=⟨by omega,by omega⟩
 have HRun:=hide hrun
 have HXa:=hide hxa
 obtain⟨e0,e1,e2,e3,e4,e5,e6,e7⟩:=nv_cells hx7
 obtain⟨b0,b1,b2,b3,b4,b5,b6,b7⟩:=nv_cells hx9
 obtain⟨d0,d1,d2,d3,d4,d5,d6,d7⟩:=nv_cells hxa
 have f1:∀o,w7.frozen? ⟨w.heap.size,o,none⟩=false:=fun o=>by simp[World.frozen?,hx7]
 have f2:∀o,w8.frozen? ⟨w.heap.size+1,o,none⟩=false:=fun o=>by simp[World.frozen?,hxa]
 simp only[Nat.zero_add,rwN,hn']at b0 b1 b2 b3 b4 b5 b6 b7 e0 e1 e2 e3 e4 e5 e6 e7 d0 d1 d2 d3 d4 d5 d6 d7
 simp only[nvO]at hw6
 rw[hw6]at HRun
 have HN':=hide hn'
 clear HC2 hb5 hb6 hs6 hbb hrun ho7 hg7 hrow hx7 hx8 hB7 hge1 hge2 hx9 hxa hOg7 hlg HB4 HX3 HX4 HO4 HOg1 HOh q0 q1 q2 q3 q4 q5 q6 q7 hn'
 go_wp2_with (at_builtin;refine wpList_run rfl _ _ 30 rfl _ _ _ _ rfl rfl HRun.out ?_)
 clear HRun hw6
 rw[rounds_succ]
 go_upto_region 9 with fail
 rw[← hw8]
 clear hw8 e0 e1 e2 e3 e4 e5 e6 e7 f1
 go_wp2
 have hn':=HN'.out
 subst hn'
 exact ret_node (N:=w.heap.size+1) (W:=nset w8 (w.heap.size+1) (rwN h2 c3)) (n:=rwN h2 c3) rfl rfl (nv_cells (nv_set HXa.out _)) ⟨g1,c1,h2,c3,rfl,own_blk HO8.out (fun o ho=>by rw[nset_keep _ HGn.out.1];exact ho),own_blk HOg8.out (fun o ho=>by rw[nset_keep _ HGn.out.2];exact ho),below_tok HB8.out (by omega) _ _ _ _ _ _ _ _⟩
def tA:Tr:=.mk 2 0 0 0 0 false [(97,97)] []
def tB:Tr:=.mk 2 0 0 0 0 false [(98,98)] []
def tR:Tr:=.mk 12 0 1 (-1) 1 false [] [tA]
def tAB:Tr:=.mk 9 0 0 0 0 false [] [tR,tB]
theorem reads_oneQ{w:World}{r:Nat}{p:Int}(h:w.heap[r]? =some (rgO p)):Reads w (.slice (some ⟨r,0,none⟩) 1 1) [(p,p)]:=by
 refine .inr ⟨⟨r,0,none⟩,1,rfl,fun j hj=>?_⟩
 have:j=0:=by simp at hj;omega
 subst this
 constructor<;>simp[World.cell?,h,Addr.add]
theorem node_set'{w:World}{r:Nat}{p:Int}(h:w.heap[r]? =some (rgO p)):NodeC w (setN r) (.mk 2 0 0 0 0 false [(p,p)] []):=
 .mk (setN r) [(p,p)] [] (fun _=>nvZ) (reads_oneQ h) (.inl ⟨rfl,rfl,rfl,rfl⟩) (fun j hj=>by simp at hj)
theorem kids_row{w:World}{B g n cap:Nat}{xs:List NV}(h:w.ownsRow B 32 8 (.slice (some ⟨g,0,none⟩) n cap) n (rowQ xs))(hn:n=xs.length):KidsC w (some ⟨g,0,none⟩) n cap xs.length (fun j=>xs.getD j nvZ):=by
 refine .inr ⟨⟨g,0,none⟩,rfl,hn,?_,fun j hj=>?_⟩
 ·rcases h.2 with⟨h0,_⟩|⟨g',cap',cur,hv,_,_,h1,h2,_⟩
  ·cases h0
  ·cases hv;unfold maxLen at h2;omega
 ·have :=row_cells h j hj
  have e:(⟨g,0,none⟩:Addr).add (j*8)=⟨g,j*8,none⟩:=by
   unfold Addr.add
   by_cases h0:j*8=0
   ·rw[if_pos h0,h0]
   ·rw[if_neg h0];simp
  rw[e]
  simpa[List.getD,hj]using this
theorem node_ab{w:World}{B1 B2 g1 c1 h c' r1 r2:Nat}(ho:w.ownsRow B1 32 8 (.slice (some ⟨h,0,none⟩) 2 c') 2 (rowQ [rpN g1 c1,setN r2]))(hg:w.ownsRow B2 32 8 (.slice (some ⟨g1,0,none⟩) 1 c1) 1 (rowQ [setN r1]))(h1:w.heap[r1]? =some (rgO 97))(h2:w.heap[r2]? =some (rgO 98)):NodeC w (rwN h c') tAB:=by
 refine .mk (rwN h c') [] [tR,tB] (fun j=>[rpN g1 c1,setN r2].getD j nvZ) (.inl ⟨rfl,rfl⟩) (kids_row ho rfl) (fun j hj=>?_)
 match j,hj with
 |0,_=>
  refine .mk (rpN g1 c1) [] [tA] (fun j=>[setN r1].getD j nvZ) (.inl ⟨rfl,rfl⟩) (kids_row hg rfl) (fun j hj=>?_)
  match j,hj with
  |0,_=>exact node_set' h1
 |1,_=>exact node_set' h2
theorem right_ab(x:Addr)(c:Nat)(w:World)(h:ReadsI w x abL):Calls prog 26 #[.int .i64 1,.slice (some x) 3 c] w fun e w'=>e=.returned (.int .i64 0)∧w'=w:=by
 have c0:w.cell? x=some (.int .i64 97):=by have:=h 0 (by decide);rw[addz0]at this;exact this
 have c1:w.cell? ⟨x.block,x.off+1,none⟩=some (.int .i64 43):=by have:=h 1 (by decide);rw[adde0 x (by omega)]at this;exact this
 have c2:w.cell? ⟨x.block,x.off+2,none⟩=some (.int .i64 98):=by have:=h 2 (by decide);rw[adde0 x (by omega)]at this;exact this
 clear h
 go_enter func26,ntmps26
 go_wp2
 refine wp_loop_rounds 4 ?_
 rw[rounds_succ]
 go_wp2
 rw[rounds_succ]
 go_wp2
 rw[rounds_succ]
 go_wp2
 rw[rounds_succ]
 go_wp2
 go_ret
 exact⟨rfl,rfl⟩
abbrev patZ:Obj:=.cells #[.int .i64 0,.slice none 0 0,.slice none 0 0,.int .i64 0,.int .i64 0,.int .i64 0,.int .i64 0,.bool false,.int .i64 0,.slice none 0 0] 35
abbrev fltZ:Obj:=.cells #[.int .i64 0,.int .i64 0] 41
abbrev patS(W:World)(N:Nat)(n:NV):World:=((nset W N n).setCell ⟨N,8,none⟩ (.int .i64 0)).setCell ⟨N,9,none⟩ (.slice none 0 0)
theorem patS_at{W:World}{N:Nat}(h:W.heap[N]? =some patZ)(n:NV):(patS W N n).heap[N]? =some (patNO n 0 none 0 0):=by
 unfold patS nset
 rw[set_oneQ (set_oneQ (set_oneQ (set_oneQ (set_oneQ (set_oneQ (set_oneQ (set_oneQ (set_oneQ (set_oneQ h _ _) _ _) _ _) _ _) _ _) _ _) _ _) _ _) _ _) _ _]
 simp[patNO]
theorem patS_keep{W:World}{N b:Nat}(n:NV)(h:b≠N):(patS W N n).heap[b]? =W.heap[b]? :=by
 unfold patS
 have e:∀(W:World) (o:Nat) (v:Value),(W.setCell ⟨N,o,none⟩ v).heap[b]? =W.heap[b]? :=fun W o v=>Below.heap_setCell _ _ _ _ (by simpa using h)
 rw[e,e,nset_keep n h]
theorem patS_below{B N:Nat}{w W:World}(h:Below B w W)(hB:B≤N)(n:NV):Below B w (patS W N n):=((below_tok h hB _ _ _ _ _ _ _ _).setCell (p:=⟨N,8,none⟩) hB _).setCell (p:=⟨N,9,none⟩) hB _
abbrev fltS(W:World)(N:Nat):World:=(W.setCell ⟨N,0,none⟩ (.int .i64 0)).setCell ⟨N,1,none⟩ (.int .i64 0)
theorem fltS_at{W:World}{N:Nat}(h:W.heap[N]? =some fltZ):(fltS W N).heap[N]? =some fltZ:=by
 unfold fltS
 rw[set_oneQ (set_oneQ h _ _) _ _]
 simp
theorem fltS_keep{W:World}{N b:Nat}(h:b≠N):(fltS W N).heap[b]? =W.heap[b]? :=by
 unfold fltS
 have e:∀(W:World) (o:Nat) (v:Value),(W.setCell ⟨N,o,none⟩ v).heap[b]? =W.heap[b]? :=fun W o v=>Below.heap_setCell _ _ _ _ (by simpa using h)
 rw[e,e]
theorem fltS_below{B N:Nat}{w W:World}(h:Below B w W)(hB:B≤N):Below B w (fltS W N):=(h.setCell (p:=⟨N,0,none⟩) hB _).setCell (p:=⟨N,1,none⟩) hB _
theorem ret_pat{f:Func}{tmps:Array Value}{W:World}{N M s a:Nat}{n:NV}{R:Ending→World→Prop}(hres:f.results=#[ResultVar.cell s 35,ResultVar.cell a 41])(h2:tmps[s]? =some (.pointer (some ⟨N,0,none⟩)))(h3:tmps[a]? =some (.pointer (some ⟨M,0,none⟩)))(hW:W.heap[N]? =some (patNO n 0 none 0 0))(hV:W.heap[M]? =some fltZ)(hF:R (.returned (.tuple #[patNV n 0 none 0 0,.agg #[.int .i64 0,.int .i64 0]])) W):
  bodyPost prog f R Exit.ret { tmps:=tmps,defers:=[] } W:=by
 obtain⟨⟨p0,p1,p2,p3,p4,p5,p6,p7⟩,p8,p9⟩:=patN_cells hW
 simp only[Nat.zero_add]at p0 p1 p2 p3 p4 p5 p6 p7
 have q0:W.cell? ⟨M,0,none⟩=some (.int .i64 0):=by simp[World.cell?,hV]
 have q1:W.cell? ⟨M,1,none⟩=some (.int .i64 0):=by simp[World.cell?,hV]
 refine bodyPost_ret (v:=.tuple #[patNV n 0 none 0 0,.agg #[.int .i64 0,.int .i64 0]]) ?_ rfl hF
 simp[results,hres,go_sem,h2,h3,p0,p1,p2,p3,p4,p5,p6,p7,p8,p9,q0,q1]
theorem own_keepB{w w':World}{B e k n:Nat}{v:Value}{xs:List Value}(h:w.ownsRow B e k v n xs)(hb:∀b o,B≤b→w.heap[b]? =some o→w'.heap[b]? =some o):w'.ownsRow B e k v n xs:=by
 refine⟨h.1,?_⟩
 rcases h.2 with h2|⟨g,cap,cur,rfl,h3,hg,h4⟩
 ·exact .inl h2
 ·exact .inr ⟨g,cap,cur,rfl,h3,hb g _ h3 hg,h4⟩
theorem parseOf_ab(x:Addr)(c:Nat)(w:World)(h:ReadsI w x abL):Calls prog 10 #[.int .i64 1,.slice (some x) 3 c,.bool false] w fun e w'=>∃n,e=.returned (.tuple #[patNV n 0 none 0 0,.agg #[.int .i64 0,.int .i64 0]])∧NodeC w' n tAB∧Below w.heap.size w w':=by
 have hxl:x.block<w.heap.size:=by have:=lt_of_cell (h 0 (by decide));rw[show (x.add 0).block=x.block from add_block x 0]at this;exact this
 obtain⟨w1,hw1⟩:=named ((w.alloc patZ).alloc fltZ)
 have hb1:Below w.heap.size w w1:=by rw[hw1];exact two_below _ _ _
 have hx1:w1.heap[w.heap.size]? =some patZ:=by rw[hw1];exact at_old (at_new _ _)
 have hx2:w1.heap[w.heap.size+1]? =some fltZ:=by rw[hw1];exact at_new' _ _ (by simp)
 have hs1:w1.heap.size=w.heap.size+1+1:=by rw[hw1];simp
 obtain⟨w2,hw2⟩:=named (w1.alloc (prsO x c 0))
 have hb2:Below w1.heap.size w1 w2:=by rw[hw2];exact allocB _ _
 have hP2:w2.heap[w.heap.size+1+1]? =some (prsO x c 0):=by rw[hw2];exact at_new' _ _ hs1.symm
 have hbb:=hb1.andT hb2
 have HC1:=hide (right_ab x c w1 (h.below hb1))
 obtain⟨N,hN⟩:=named w.heap.size
 rw[← hN]at hx1 hx2 hs1 hP2 hxl
 have HC2:=hide (pattern_ab (N+1+1) x c w2 hP2 (h.below hbb) (by omega) (Nat.lt_of_lt_of_le (by omega) hbb.size))
 have HX1:=hide (below_at hb2 hx1)
 have HX2:=hide (below_at hb2 hx2)
 have HB2:=hide hbb
 have HP2:=hide hP2
 have HS1:=hide hs1
 have HNN:=hide hN
 have HS2:Hid (N+1+1<w2.heap.size):=lt_of_block hP2
 simp only[patZ,fltZ]at hw1
 simp only[prsO]at hw2
 clear hb1 hx1 hx2 hb2 hP2 hbb h hs1
 go_enter func10,ntmps10
 go_upto_region 1 with fail
 rw[← hw1, ←hN]
 clear hw1 hN
 go_wp2_with fail
 refine HC1.out.mono ?_
 rintro e w' ⟨rfl,hw'⟩
 have hw'':=hw'.symm
 subst hw''
 clear HC1
 go_upto_region 5 with fail
 rw[← hw2,HS1.out]
 clear hw2
 go_wp2_with fail
 refine HC2.out.mono ?_
 rintro e w3 ⟨kb,r1,r2,g,c4,rfl,hP3,hO3,hkb3,hr13,hr23,hR3,hK3,hl1,hl2,hl3⟩
 clear HC2
 -- the tree's box
 obtain⟨W4,hW4⟩:=named (w3.alloc (nvO (rwN g c4)))
 have hb4:Below w3.heap.size w3 W4:=by rw[hW4];exact allocB _ _
 have ht4:W4.heap[w3.heap.size]? =some (nvO (rwN g c4)):=by rw[hW4];exact at_new _ _
 obtain⟨tb,htb⟩:=named w3.heap.size
 rw[← htb]at ht4
 have hx3:w3.heap[N]? =some patZ:=hK3.keep _ _ HX1.out (by omega)
 have hy3:w3.heap[N+1]? =some fltZ:=hK3.keep _ _ HX2.out (by omega)
 have HX4:=hide (below_at hb4 hx3)
 have HY4:=hide (below_at hb4 hy3)
 have hP4:=below_at hb4 hP3
 have HP4:=hide hP4
 have hB3:Below N w w3:=hK3.low N w (by omega) (by have:=HB2.out;rw[← HNN.out]at this;exact this)
 have HB4:Hid (Below N w W4):=hB3.trans (hb4.mono (by have:=lt_of_block hP3;omega))
 have HO4:=hide (own_below hO3 hb4)
 have HK4:=hide (below_at hb4 hkb3)
 have HR1:=hide (below_at hb4 hr13)
 have HR2:=hide (below_at hb4 hr23)
 have HT4:=hide ht4
 have HLr:Hid (r1<tb∧r2<tb∧N+1+1<tb∧N+1+1<r1∧N+1+1<r2):=⟨by rw[htb];exact lt_of_block hr13,by rw[htb];exact lt_of_block hr23,by rw[htb];exact lt_of_block hP3,by have:=HS2.out;omega,by have:=HS2.out;omega⟩
 obtain⟨p0,p1,p2,p3,p4,p5,p6,p7,p8,p9,p10,p11⟩:=prs_cells hP4
 obtain⟨d0,d1,d2,d3,d4,d5,d6,d7⟩:=nv_cells ht4
 simp only[Nat.zero_add]at d0 d1 d2 d3 d4 d5 d6 d7
 have HDr:Hid (Below W4.heap.size W4 W4.drew):=⟨rfl,rfl,rfl,leR _,fun _ _=>rfl⟩
 have HC3:=hide (numbered_row _ g c4 kb r1 r2 W4.drew (own_below HO4.out HDr.out) (below_at HDr.out HK4.out))
 have HWl:Hid (tb<W4.heap.size):=lt_of_block ht4
 simp only[nvO]at hW4
 clear hP3 hO3 hkb3 hr13 hr23 hR3 hK3 hl1 hl2 hl3 hb4 ht4 hx3 hy3 hP4 hB3
 go_upto_region 6 with fail
 rw[← hW4, ←htb]
 clear hW4 htb
 go_upto_region 8 with fail
 go_wp2
 refine wp_loop_rounds 1 ?_
 rw[rounds_succ]
 go_wp2_with fail
 go_still_tail 5,(by kernel_rfl)
 go_wp2_with fail
 refine HC3.out.mono ?_
 rintro e w5 ⟨g1,c1,hh,c',rfl,ho5,hg5,hb5⟩
 have hb5':=HDr.out.trans hb5
 have hT5:=below_at hb5' HT4.out
 obtain⟨t0,t1,t2,t3,t4,t5,t6,t7⟩:=nv_cells hT5
 simp only[Nat.zero_add]at t0 t1 t2 t3 t4 t5 t6 t7
 have fz:∀o,w5.frozen? ⟨tb,o,none⟩=false:=fun o=>by simp[World.frozen?,hT5]
 obtain⟨w6,hw6⟩:=named (nset w5 tb (rwN hh c'))
 have hk6:∀b o,b≠tb→w5.heap[b]? =some o→w6.heap[b]? =some o:=fun b o hb ho=>by rw[hw6,nset_keep _ hb];exact ho
 have hX6:=hk6 _ _ (by have:=HLr.out;omega) (below_at hb5' HX4.out)
 have hY6:=hk6 _ _ (by have:=HLr.out;omega) (below_at hb5' HY4.out)
 have hP6:=hk6 _ _ (by have:=HLr.out;omega) (below_at hb5' HP4.out)
 have hT6:w6.heap[tb]? =some (nvO (rwN hh c')):=by rw[hw6];exact nv_set hT5 _
 have hR16:=hk6 _ _ (by have:=HLr.out;omega) (below_at hb5' HR1.out)
 have hR26:=hk6 _ _ (by have:=HLr.out;omega) (below_at hb5' HR2.out)
 have hO6:=own_keepB (w':=w6) ho5 fun b o hb ho=>hk6 b o (by have:=HWl.out;have e:W4.drew.heap.size=W4.heap.size:=rfl;omega) ho
 have hG6:=own_keepB (w':=w6) hg5 fun b o hb ho=>hk6 b o (by have:=HWl.out;have e:W4.drew.heap.size=W4.heap.size:=rfl;omega) ho
 have hN6:=node_ab hO6 hG6 hR16 hR26
 have hb6:Below N w w6:=by rw[hw6];exact below_tok (HB4.out.trans (hb5'.mono (by have:=HWl.out;have:=HLr.out;omega))) (by have:=HLr.out;omega) _ _ _ _ _ _ _ _
 have HX6:=hide hX6
 have HY6:=hide hY6
 have HP6:=hide hP6
 have HT6:=hide hT6
 have HR16:=hide hR16
 have HR26:=hide hR26
 have HO6:=hide hO6
 have HG6:=hide hG6
 have HB6:=hide hb6
 have HWl4:Hid (tb<W4.drew.heap.size):=HWl.out
 have HC4:=hide (nodesOf_any hN6 (by decide) w6 (belR _ _))
 have hszt:((szT tAB:Nat):Int)=4:=rfl
 rw[hszt]at HC4
 clear hszt
 obtain⟨s0,s1,s2,s3,s4,s5,s6,s7⟩:=nv_cells hT6
 simp only[Nat.zero_add]at s0 s1 s2 s3 s4 s5 s6 s7
 simp only[nset]at hw6
 clear HC3 hb5 hb5' hT5 hX6 hY6 hP6 hT6 hR16 hR26 ho5 hg5 hO6 hG6 hk6 hb6 hN6 HX4 HY4 HP4 HO4 HK4 HR1 HR2 HT4 HB4 p0 p1 p2 p3 p4 p5 p6 p7 p8 p9 p10 p11 d0 d1 d2 d3 d4 d5 d6 d7
 go_upto_region 22 with fail
 rw[← hw6]
 clear hw6 t0 t1 t2 t3 t4 t5 t6 t7 fz
 go_wp2_with fail
 refine HC4.out.mono ?_
 rintro e w7 ⟨rfl,hb7⟩
 have hX7:=below_at hb7 HX6.out
 have hY7:=below_at hb7 HY6.out
 have hP7:=below_at hb7 HP6.out
 have hT7:=below_at hb7 HT6.out
 obtain⟨p0,p1,p2,p3,p4,p5,p6,p7,p8,p9,p10,p11⟩:=prs_cells hP7
 obtain⟨d0,d1,d2,d3,d4,d5,d6,d7⟩:=nv_cells hT7
 simp only[Nat.zero_add]at d0 d1 d2 d3 d4 d5 d6 d7
 have fN:∀o,w7.frozen? ⟨N,o,none⟩=false:=fun o=>by simp[World.frozen?,hX7]
 have fM:∀o,w7.frozen? ⟨N+1,o,none⟩=false:=fun o=>by simp[World.frozen?,hY7]
 have x0:w7.cell? ⟨N,0,none⟩=some (.int .i64 0):=by simp[World.cell?,hX7]
 have x1:w7.cell? ⟨N,1,none⟩=some (.slice none 0 0):=by simp[World.cell?,hX7]
 have x2:w7.cell? ⟨N,2,none⟩=some (.slice none 0 0):=by simp[World.cell?,hX7]
 have x3:w7.cell? ⟨N,3,none⟩=some (.int .i64 0):=by simp[World.cell?,hX7]
 have x4:w7.cell? ⟨N,4,none⟩=some (.int .i64 0):=by simp[World.cell?,hX7]
 have x5:w7.cell? ⟨N,5,none⟩=some (.int .i64 0):=by simp[World.cell?,hX7]
 have x6:w7.cell? ⟨N,6,none⟩=some (.int .i64 0):=by simp[World.cell?,hX7]
 have x7:w7.cell? ⟨N,7,none⟩=some (.bool false):=by simp[World.cell?,hX7]
 have x8:w7.cell? ⟨N,8,none⟩=some (.int .i64 0):=by simp[World.cell?,hX7]
 have x9:w7.cell? ⟨N,9,none⟩=some (.slice none 0 0):=by simp[World.cell?,hX7]
 have y0:w7.cell? ⟨N+1,0,none⟩=some (.int .i64 0):=by simp[World.cell?,hY7]
 have y1:w7.cell? ⟨N+1,1,none⟩=some (.int .i64 0):=by simp[World.cell?,hY7]
 have hlt7:=lt_of_block hY7
 obtain⟨W8,hW8⟩:=named ((fltS (patS w7 N (rwN hh c')) (N+1)).drew)
 have dh:∀X:World,X.drew.heap=X.heap:=fun _=>rfl
 have dB:∀(B:Nat) (Y X:World),Below B Y X→Below B Y X.drew:=fun B Y X h=>⟨h.1,h.2,h.3,h.4,h.5⟩
 have hD8:W8.heap=(fltS (patS w7 N (rwN hh c')) (N+1)).heap:=by rw[hW8,dh]
 have hk8:∀b o,b≠N→b≠N+1→w7.heap[b]? =some o→W8.heap[b]? =some o:=fun b o h1 h2 ho=>by rw[hD8,fltS_keep h2,patS_keep _ h1];exact ho
 have hN8:=node_ab (w:=W8) (own_keepB (own_below HO6.out hb7) fun b o hb ho=>hk8 b o (by have:=HWl4.out;have:=HLr.out;omega) (by have:=HWl4.out;have:=HLr.out;omega) ho) (own_keepB (own_below HG6.out hb7) fun b o hb ho=>hk8 b o (by have:=HWl4.out;have:=HLr.out;omega) (by have:=HWl4.out;have:=HLr.out;omega) ho) (hk8 _ _ (by have:=HLr.out;omega) (by have:=HLr.out;omega) (below_at hb7 HR16.out)) (hk8 _ _ (by have:=HLr.out;omega) (by have:=HLr.out;omega) (below_at hb7 HR26.out))
 have hB8:Below w.heap.size w W8:=by
  rw[hW8, ←HNN.out]
  have h9:=fltS_below (N:=N+1) (patS_below (N:=N) (HB6.out.trans (hb7.mono (by have:=lt_of_block HX6.out;omega))) (leR _) (rwN hh c')) (by omega)
  exact dB _ _ _ h9
 have HZ1:Hid (W8.heap[N]? =some (patNO (rwN hh c') 0 none 0 0)):=by show _=_;rw[hD8,fltS_keep (by omega)];exact patS_at (W:=w7) hX7 _
 have HZ2:Hid (W8.heap[N+1]? =some fltZ):=by show _=_;rw[hD8];exact fltS_at (by rw[patS_keep _ (by omega)];exact hY7)
 have HN8:=hide hN8
 have HB8:=hide hB8
 simp only[fltS,patS,nset]at hW8
 have HW8:=hide hW8
 clear dh dB hW8 hX7 hY7 hP7 hT7 hk8 hN8 hB8 hD8 hb7 HC4
 go_upto_region 24 with fail
 go_region
 rw[← HW8.out]
 clear HW8 x0 x1 x2 x3 x4 x5 x6 x7 x8 x9 y0 y1 fN fM d0 d1 d2 d3 d4 d5 d6 d7 p0 p1 p2 p3 p4 p5 p6 p7 p8 p9 p10 p11
 go_wp2
 exact ret_pat rfl rfl rfl HZ1.out HZ2.out ⟨_,rfl,HN8.out,HB8.out⟩
end Go.Proofs.YtfnndcbjklppeaaGreatDoor
