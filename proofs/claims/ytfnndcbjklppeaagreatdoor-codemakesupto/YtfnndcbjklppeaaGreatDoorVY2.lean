import Derived.Test.YtfnndcbjklppeaaGreatDoorVR2
import Derived.Test.YtfnndcbjklppeaaGreatDoorVW2
import Derived.Test.YtfnndcbjklppeaaGreatDoorUJ2
import Derived.Test.YtfnndcbjklppeaaGreatDoorYA2
import Derived.Test.YtfnndcbjklppeaaGreatDoorUX2
import Derived.Deep.RegionHeld
set_option linter.unusedVariables false
set_option maxRecDepth 100000
set_option maxHeartbeats 8000000
open Go.Proofs.Tryz
namespace Go.Proofs.YtfnndcbjklppeaaGreatDoor.Mk
open Go.RowKit Go.PlainAid
theorem made_ab8:madeO tAB=[⟨9,[],0,0,0,0,false,false⟩,⟨11,[],0,3,0,1,false,false⟩,⟨3,[],3,6,0,0,false,false⟩,⟨1,[(97,97)],0,0,0,0,false,false⟩,⟨10,[],0,1,0,0,false,false⟩,⟨2,[],1,0,0,0,false,false⟩,⟨1,[(98,98)],0,0,0,0,false,false⟩,⟨15,[],0,0,0,0,false,false⟩]:=by rfl
theorem tree_ab:treeE tAB 0=0:=by rfl
theorem bh_ab:bhA tAB=true:=by rfl
theorem prog_ab:progE 8 0 1 ((madeO tAB).map emb)=0:=by rfl
theorem ops_ab{w:World}{oa:Option Addr}{oc:Nat}{L:OpL}(hO:OpsC w oa (madeO tAB).length oc L)(hL:L.map stripO=madeO tAB):∃(x:Addr) (so0 so1 so2 so3 so4 so5 so6 so7:Option Addr×Nat×Nat),oa=some x∧(8≤oc∧oc≤9223372036854775807)∧OCells w (x.add (0*8)) ⟨9,so0.1,so0.2.1,so0.2.2,0,0,0,0,false,false⟩∧OCells w (x.add (1*8)) ⟨11,so1.1,so1.2.1,so1.2.2,0,3,0,1,false,false⟩∧OCells w (x.add (2*8)) ⟨3,so2.1,so2.2.1,so2.2.2,3,6,0,0,false,false⟩∧OCells w (x.add (3*8)) ⟨1,so3.1,so3.2.1,so3.2.2,0,0,0,0,false,false⟩∧OCells w (x.add (4*8)) ⟨10,so4.1,so4.2.1,so4.2.2,0,1,0,0,false,false⟩∧OCells w (x.add (5*8)) ⟨2,so5.1,so5.2.1,so5.2.2,1,0,0,0,false,false⟩∧OCells w (x.add (6*8)) ⟨1,so6.1,so6.2.1,so6.2.2,0,0,0,0,false,false⟩∧OCells w (x.add (7*8)) ⟨15,so7.1,so7.2.1,so7.2.2,0,0,0,0,false,false⟩∧Reads w (.slice so3.1 so3.2.1 so3.2.2) [(97,97)]∧Reads w (.slice so6.1 so6.2.1 so6.2.2) [(98,98)]:=by
 rw[made_ab8]at hO hL
 obtain⟨x,hx,hc,h⟩:=op_at hO hL (by decide)
 obtain⟨so0,q0,r0⟩:=h 0 (by decide)
 obtain⟨so1,q1,r1⟩:=h 1 (by decide)
 obtain⟨so2,q2,r2⟩:=h 2 (by decide)
 obtain⟨so3,q3,r3⟩:=h 3 (by decide)
 obtain⟨so4,q4,r4⟩:=h 4 (by decide)
 obtain⟨so5,q5,r5⟩:=h 5 (by decide)
 obtain⟨so6,q6,r6⟩:=h 6 (by decide)
 obtain⟨so7,q7,r7⟩:=h 7 (by decide)
 exact⟨x,so0,so1,so2,so3,so4,so5,so6,so7,hx,hc,q0,q1,q2,q3,q4,q5,q6,q7,r3,r6⟩
theorem name_nil{z:Int}(h:NameE [] z):z=0:=by
 rcases h with⟨_,i,hi,_⟩|⟨_,_,i,hi,_⟩|⟨_,_,_,i,_,hi,_⟩|⟨h,_⟩
 ·simp at hi
 ·simp at hi
 ·simp at hi
 ·exact h
theorem beh_ab{z:Int}(h:BehE tAB 0 [] z):z=0:=by
 have pat:∀z,PatE tAB 0 [] z→z=0:=fun z h=>by
  rcases h with⟨h1,_⟩|⟨_,h⟩
  ·exact absurd (by decide) h1
  ·have ht:=tree_ab
   rcases h with⟨h2,h3⟩|⟨h2,h3,h4⟩|⟨h2,h3,h4⟩
   ·omega
   ·exact absurd rfl h3
   ·exact name_nil h4
 rcases h with⟨h1,_⟩|⟨_,h2⟩
 ·exact pat z h1
 ·rw[bh_ab]at h2;simpa using h2
def MadeAb(w:World)(e:Ending)(w':World):Prop:=∃(L:OpL) (oc:Nat) (x:Addr) (so0 so1 so2 so3 so4 so5 so6 so7:Option Addr×Nat×Nat),e=.returned (.tuple #[prV (some x) 8 oc 0 1,.int .i64 0])∧Below w.heap.size w w'∧OpsC w' (some x) 8 oc L∧progE 8 0 1 L=0∧(8≤oc∧oc≤9223372036854775807)∧OCells w' (x.add (0*8)) ⟨9,so0.1,so0.2.1,so0.2.2,0,0,0,0,false,false⟩∧OCells w' (x.add (1*8)) ⟨11,so1.1,so1.2.1,so1.2.2,0,3,0,1,false,false⟩∧OCells w' (x.add (2*8)) ⟨3,so2.1,so2.2.1,so2.2.2,3,6,0,0,false,false⟩∧OCells w' (x.add (3*8)) ⟨1,so3.1,so3.2.1,so3.2.2,0,0,0,0,false,false⟩∧OCells w' (x.add (4*8)) ⟨10,so4.1,so4.2.1,so4.2.2,0,1,0,0,false,false⟩∧OCells w' (x.add (5*8)) ⟨2,so5.1,so5.2.1,so5.2.2,1,0,0,0,false,false⟩∧OCells w' (x.add (6*8)) ⟨1,so6.1,so6.2.1,so6.2.2,0,0,0,0,false,false⟩∧OCells w' (x.add (7*8)) ⟨15,so7.1,so7.2.1,so7.2.2,0,0,0,0,false,false⟩∧Reads w' (.slice so3.1 so3.2.1 so3.2.2) [(97,97)]∧Reads w' (.slice so6.1 so6.2.1 so6.2.2) [(98,98)]
theorem make_ab(n:NV)(w:World)(h:NodeC w n tAB):Calls prog 8 #[patNV n 0 none 0 0] w fun e w'=>MadeAb w e w':=by
 refine(make_any n tAB 0 none 0 0 [] w h (.inl ⟨rfl,rfl⟩)).mono ?_
 rintro e w' ⟨z,hz,hb,⟨hne,_⟩|⟨_,oa,oc,L,he,hO,hL⟩⟩
 ·exact absurd (beh_ab hz) hne
 ·have hp:progE 8 0 1 L=0:=by rw[progE_emb (OpsC.sl hO),hL];exact prog_ab
  obtain⟨x,so0,so1,so2,so3,so4,so5,so6,so7,hx,hc,q⟩:=ops_ab hO hL
  subst hx
  exact⟨L,oc,x,so0,so1,so2,so3,so4,so5,so6,so7,he,hb,hO,hp,hc,q⟩
end Go.Proofs.YtfnndcbjklppeaaGreatDoor.Mk
namespace Go.Proofs.YtfnndcbjklppeaaGreatDoor.Vm
open Go.RowKit
abbrev maO(a b:Int):Obj:=.cells #[.int .i64 a,.int .i64 b,.slice none 0 0] 47
theorem ret_run{f:Func}{tmps:Array Value}{W:World}{N s a b c:Nat}{x y z u:Int}{t:Bool}{R:Ending→World→Prop}(hres:f.results=#[ResultVar.cell s 47,ResultVar.tmp a,ResultVar.tmp b,ResultVar.tmp c])(h2:tmps[s]? =some (.pointer (some ⟨N,0,none⟩)))(h3:tmps[a]? =some (.bool t))(h4:tmps[b]? =some (.int .i64 z))(h5:tmps[c]? =some (.int .i64 u))(hb:W.heap[N]? =some (maO x y))(hF:R (.returned (.tuple #[.agg #[.int .i64 x,.int .i64 y,.slice none 0 0],.bool t,.int .i64 z,.int .i64 u])) W):
  bodyPost prog f R Exit.ret { tmps:=tmps,defers:=[] } W:=by
 refine bodyPost_ret (v:=.tuple #[.agg #[.int .i64 x,.int .i64 y,.slice none 0 0],.bool t,.int .i64 z,.int .i64 u]) ?_ rfl hF
 have c0:W.cell? ⟨N,0,none⟩=some (.int .i64 x):=by simp[World.cell?,hb]
 have c1:W.cell? ⟨N,1,none⟩=some (.int .i64 y):=by simp[World.cell?,hb]
 have c2:W.cell? ⟨N,2,none⟩=some (.slice none 0 0):=by simp[World.cell?,hb]
 simp[results,hres,go_sem,h2,h3,h4,h5,c0,c1,c2]
theorem rowAt{w:World}{B g n cap:Nat}{l:List Int}(h:w.ownsRow B 3 1 (.slice (some ⟨g,0,none⟩) n cap) n (i64s l))(i:Nat)(hi:i<n):w.cell? (Addr.add ⟨g,0,none⟩ i)=(i64s l)[i]? :=by
 have:=World.ownsRow.cellAt h i (by omega)
 cases i with
 |zero=>exact this
 |succ i=>simpa[Addr.add]using this
theorem runCode_ab(L:OpL)(oc:Nat)(x:Addr)(so0 so1 so2 so3 so4 so5 so6 so7:Option Addr×Nat×Nat)(w:World)(hO:OpsC w (some x) 8 oc L)(hp:progE 8 0 1 L=0)(hoc:8≤oc∧oc≤9223372036854775807)(ho0:OCells w (x.add (0*8)) ⟨9,so0.1,so0.2.1,so0.2.2,0,0,0,0,false,false⟩)(ho1:OCells w (x.add (1*8)) ⟨11,so1.1,so1.2.1,so1.2.2,0,3,0,1,false,false⟩)(ho2:OCells w (x.add (2*8)) ⟨3,so2.1,so2.2.1,so2.2.2,3,6,0,0,false,false⟩)(ho3:OCells w (x.add (3*8)) ⟨1,so3.1,so3.2.1,so3.2.2,0,0,0,0,false,false⟩)(ho4:OCells w (x.add (4*8)) ⟨10,so4.1,so4.2.1,so4.2.2,0,1,0,0,false,false⟩)(ho5:OCells w (x.add (5*8)) ⟨2,so5.1,so5.2.1,so5.2.2,1,0,0,0,false,false⟩)(ho6:OCells w (x.add (6*8)) ⟨1,so6.1,so6.2.1,so6.2.2,0,0,0,0,false,false⟩)(ho7:OCells w (x.add (7*8)) ⟨15,so7.1,so7.2.1,so7.2.2,0,0,0,0,false,false⟩)(hs3:Reads w (.slice so3.1 so3.2.1 so3.2.2) [(97,97)])(hs6:Reads w (.slice so6.1 so6.2.1 so6.2.2) [(98,98)]):Calls prog 12 #[prV (some x) 8 oc 0 1,.int .i64 4,.string En.aab,.int .i64 0,.int .i64 1000] w fun e w'=>e=.returned (.tuple #[.agg #[.int .i64 0,.int .i64 3,.slice none 0 0],.bool true,.int .i64 15,.int .i64 0])∧Below w.heap.size w w':=by
 obtain⟨W,hW⟩:=named ((w.alloc (prO (some x) 8 oc 0 1)).alloc (.cells #[.int .i64 0,.int .i64 0,.slice none 0 0] 47))
 have hbW:Below w.heap.size w W:=by rw[hW];exact two_below _ _ _
 have k0:W.heap[w.heap.size]? =some (prO (some x) 8 oc 0 1):=by rw[hW];exact at_old (at_new _ _)
 have k1:W.heap[w.heap.size+1]? =some (maO 0 0):=by rw[hW];exact at_new' _ _ (by simp)
 have HC:=hide (codeCheck_any (some x) 8 oc 0 1 L W (hO.below hbW))
 rw[hp]at HC
 simp only[prV]at HC
 have HR:=hide (fun (E:ME) (cv bv:Value) (w1 w':World) (hb:Below w.heap.size w w1) (e1:w1.heap.size=E.B) (h2:Below E.B w1 w') (h3:MX w' E ⟨0,0,0,[],[]⟩ cv bv) (h4:E.oa=some x) (h5:E.oc=oc)=>run_aab w1 w' e1 h2 h3 x h4 (by rw[h5];exact hoc) so0 so1 so2 so3 so4 so5 so6 so7 (ho0.below hb) (ho1.below hb) (ho2.below hb) (ho3.below hb) (ho4.below hb) (ho5.below hb) (ho6.below hb) (ho7.below hb) (hs3.below hb) (hs6.below hb))
 have HB:=hide hbW
 have HK0:=hide k0
 have HK1:=hide k1
 simp only[prO]at hW
 clear hO hp hbW k0 k1 hoc ho0 ho1 ho2 ho3 ho4 ho5 ho6 ho7 hs3 hs6
 go_enter func12,ntmps12
 go_wp2_with fail
 rw[← hW]
 clear hW
 refine HC.out.mono ?_
 rintro e w1 ⟨rfl,hb1⟩
 clear HC
 have HB1:=hide (HB.out.andT hb1)
 have HK01:=hide (below_at hb1 HK0.out)
 have HK11:=hide (below_at hb1 HK1.out)
 clear hb1 HB HK0 HK1
 have HC:=hide (En.begin_aab w1)
 go_wp2_with fail
 refine HC.out.mono ?_
 rintro e w2 ⟨p,q,rfl,hp2,hq2,hb2⟩
 clear HC
 obtain⟨pb,pc,rfl⟩:=own_some hp2 (by decide)
 obtain⟨qb,qc,rfl⟩:=own_some hq2 (by decide)
 obtain⟨W3,hW3⟩:=named (w2.alloc (En.wkO (.slice (some ⟨pb,0,none⟩) 3 pc) 0 0 (.slice (some ⟨qb,0,none⟩) 4 qc)))
 have hb3:Below w2.heap.size w2 W3:=by rw[hW3];exact allocB _ _
 have hk3:W3.heap[w2.heap.size]? =some (En.wkO (.slice (some ⟨pb,0,none⟩) 3 pc) 0 0 (.slice (some ⟨qb,0,none⟩) 4 qc)):=by rw[hW3];exact at_new _ _
 have hB2:=HB1.out.andT hb2
 have HB3:=hide (hB2.andT hb3)
 have HK03:=hide (below_at hb3 (below_at hb2 HK01.out))
 have HK13:=hide (below_at hb3 (below_at hb2 HK11.out))
 have HP3:=hide (own_below hp2 hb3)
 have HQ3:=hide (own_below hq2 hb3)
 obtain⟨y0,y1,y2⟩:=pr_cells HK03.out
 obtain⟨z0,z1,z2,z3,z4⟩:=En.wk_cells hk3
 have HC:=hide (new_any ⟨pb,0,none⟩ ⟨qb,0,none⟩ pc qc (some x) oc W3)
 simp only[prV,En.wkV]at HC
 simp only[En.wkO]at hW3
 clear hb2 HB1 HK01 HK11 hp2 hq2 hb3 hk3 hB2
 simp only[En.wkV]
 go_upto_region 5 with fail
 rw[← hW3]
 clear hW3
 go_wp2_with fail
 refine HC.out.mono ?_
 rintro e w4 ⟨E,rfl,hEB,hEpx,hEpc,hEsx,hEsc,hEoa,hEoc,hM,hb4⟩
 clear HC y0 y1 y2 z0 z1 z2 z3 z4
 have HX:Hid (E.px=⟨pb,0,none⟩∧E.sx=⟨qb,0,none⟩∧E.B=W3.heap.size):=⟨hEpx,hEsx,hEB⟩
 have HC:=hide (HR.out E _ _ W3 w4 HB3.out hEB.symm (by rw[hEB];exact hb4) hM hEoa hEoc (by rw[hEpx];exact rowAt HP3.out 0 (by decide)) (by rw[hEpx];exact rowAt HP3.out 1 (by decide)) (by rw[hEpx];exact rowAt HP3.out 2 (by decide)))
 have HB4:=hide (HB3.out.andT hb4)
 have HS4:Hid (E.B≤w4.heap.size):=hM.ltB
 have HK14:=hide (below_at hb4 HK13.out)
 have HQ4:=hide (own_below HQ3.out hb4)
 have HL:Hid (w.heap.size+1<W3.heap.size):=lt_of_block HK13.out
 have HLw:Hid (w.heap.size≤W3.heap.size):=HB3.out.size
 have HLq:Hid (qb<W3.heap.size):=own_lt HQ3.out
 clear HR HB3 HK03 HK13 HP3 HQ3 hM hb4 hEB hEpx hEpc hEsx hEsc hEoa hEoc
 go_wp2_with fail
 refine HC.out.mono ?_
 rintro e w5 ⟨rfl,⟨s,cv,bv,hpos,hM5⟩,hF5⟩
 clear HC
 have hlo:Below W3.heap.size w4 w5:=by have:=hF5.low;rw[HX.out.2.2]at this;exact this
 have hB5:=HB4.out.trans (hlo.mono HLw.out)
 have hk5:w5.heap[w.heap.size+1]? =some (maO 0 0):=by rw[hlo.block _ HL.out];exact HK14.out
 have hq5:∀i:Nat,i<4→w5.cell? (E.sx.add i)=(i64s [0,1,2,3])[i]? :=fun i hi=>by
  rw[HX.out.2.1]
  have h0:=HQ4.out
  have hql:=HLq.out
  exact rowAt (own_blk h0 (fun o ho=>by rw[hlo.block _ hql];exact ho)) i hi
 have HD:Hid (Below w5.heap.size w5 w5.drew):=drew1 w5
 have HC:=hide (match_any hM5.drew hpos (by have:=hq5 0 (by decide);exact below_cell HD.out (lt_of_cell this) this) (by have:=hq5 3 (by decide);exact below_cell HD.out (lt_of_cell this) this))
 obtain⟨-, -, -, -, -, -,c9, -⟩:=hM5.rd
 obtain⟨N,hN⟩:=named (w.heap.size+1)
 have HS:Hid (w5.drew.cell? ⟨E.M,9,none⟩=some (.slice E.ga 0 E.gc)):=c9
 have HNE:Hid (E.M≠N):=by have h1:=hM5.lm;have h2:=HX.out.2.2;have h3:=HL.out;show _≠_;omega
 have HK5:=hide hk5
 have HB5:=hide hB5
 clear hk5 hB5 hq5 hlo hF5 hM5 hpos HB4 HS4 HK14 HQ4 HL HLw HLq HX c9
 have HNw:Hid (w.heap.size≤N):=by show _≤_;omega
 rw[← hN]at HK5
 go_upto_region 13 with fail
 rw[← hN]
 clear hN
 refine wp_region_held (S:=fun w'=>w'.cell? ⟨E.M,9,none⟩=some (.slice E.ga 0 E.gc)) (by kernel_rfl) ?_
 change wpAnyH _ _ _ _ _ _ _ _ (World.drew _)
 refine takeH 0 (.pointer (some ⟨E.M,0,none⟩)) rfl (fun _ _ _ h=>h) HS.out (fun w' hS=>?_) ?_
 ·go_simp
 refine takeH 1 (.pointer (some ⟨E.M,0,none⟩)) rfl (fun _ _ _ h=>h) HS.out (fun w' hS=>?_) ?_
 ·go_simp
 refine takeH 2 (.pointer (some ⟨E.M,0,none⟩)) rfl (fun _ _ _ h=>h) HS.out (fun w' hS=>?_) ?_
 ·go_simp
 refine takeH 3 (.pointer (some ⟨E.M,0,none⟩)) rfl (fun _ _ _ h=>h) HS.out (fun w' hS=>?_) ?_
 ·go_simp
 refine takeH 4 (.pointer (some ⟨E.M,0,none⟩)) rfl (fun _ _ _ h=>h) HS.out (fun w' hS=>?_) ?_
 ·go_simp
 refine takeH 5 (.pointer (some ⟨E.M,9,none⟩)) rfl (fun _ _ _ h=>h) HS.out (fun w' hS=>?_) ?_
 ·go_simp
 refine takeH 6 (.pointer (some ⟨E.M,9,none⟩)) rfl (fun _ _ _ h=>h) HS.out (fun w' hS=>?_) ?_
 ·go_simp
 refine takeH 7 (.slice E.ga 0 E.gc) rfl (fun _ _ _ h=>h) HS.out (fun w' hS=>?_) ?_
 ·go_simp
 refine takeH 9 (.int .i64 15) rfl (fun _ _ _ h=>h) HS.out (fun w' hS=>?_) ?_
 ·go_simp
 refine wpAnyH_ready (rs:=[8]) (by kernel_rfl) (by simp) ?_
 refine AllReadyH.cons rfl (fun K hK=>?_) AllReadyH.nil
 go_simp
 refine HC.out.mono ?_
 rintro e w6 ⟨rfl,hb6⟩
 clear HC
 have HS6:Hid (w6.cell? ⟨E.M,9,none⟩=some (.slice E.ga 0 E.gc)):=below_cell hb6 (lt_of_cell HS.out) HS.out
 refine hK.out _ _ HS6.out (fun _=>?_)
 clear hK K HS
 have hb6':=HD.out.trans hb6
 have hk6:=below_at hb6' HK5.out
 have m0:w6.cell? ⟨N,0,none⟩=some (.int .i64 0):=by simp[World.cell?,hk6]
 have m1:w6.cell? ⟨N,1,none⟩=some (.int .i64 0):=by simp[World.cell?,hk6]
 have m2:w6.cell? ⟨N,2,none⟩=some (.slice none 0 0):=by simp[World.cell?,hk6]
 have mf:∀o,w6.frozen? ⟨N,o,none⟩=false:=fun o=>by simp[World.frozen?,hk6]
 have hlN:=lt_of_block hk6
 have HK6:=hide (set3 (a:=.int .i64 0) (b:=.int .i64 3) (c:=.slice none 0 0) hk6)
 have HB6:=hide (HB5.out.andT hb6')
 have HS7:Hid ((((w6.setCell ⟨N,0,none⟩ (.int .i64 0)).setCell ⟨N,1,none⟩ (.int .i64 3)).setCell ⟨N,2,none⟩ (.slice none 0 0)).cell? ⟨E.M,9,none⟩=some (.slice E.ga 0 E.gc)):=by
  show _=_
  have e:∀(W:World) (o:Nat) (v:Value),(W.setCell ⟨N,o,none⟩ v).heap[E.M]? =W.heap[E.M]? :=fun W o v=>Below.heap_setCell _ _ _ _ (by simpa using HNE.out)
  rw[← HS6.out]
  simp only[World.cell?,e]
 clear hb6 hb6' hk6 HB5 HK5 HD HS6
 refine wpAnyH_ready (rs:=[10]) (by kernel_rfl) (by simp) ?_
 refine AllReadyH.cons rfl (fun K hK=>?_) AllReadyH.nil
 go_simp
 refine hK.out _ _ HS7.out (fun _=>?_)
 clear hK K
 refine takeH 11 (.bool true) rfl (fun _ _ _ h=>h) HS7.out (fun w' hS=>?_) ?_
 ·go_simp
 refine takeH 12 (.int .i64 15) rfl (fun _ _ _ h=>h) HS7.out (fun w' hS=>?_) ?_
 ·go_simp
 refine takeH 13 (.int .i64 0) rfl (fun _ _ _ h=>h) HS7.out (fun w' hS=>?_) ?_
 ·go_simp
 refine wpAnyH_done (by kernel_rfl) ?_ _
 go_wp2
 refine ret_run (N:=N) rfl rfl rfl rfl rfl HK6.out ⟨rfl,?_⟩
 exact((HB6.out.setCell (p:=⟨N,0,none⟩) HNw.out _).setCell (p:=⟨N,1,none⟩) HNw.out _).setCell (p:=⟨N,2,none⟩) HNw.out _
end Go.Proofs.YtfnndcbjklppeaaGreatDoor.Vm
namespace Go.Proofs.YtfnndcbjklppeaaGreatDoor.En
open Go.RowKit
abbrev apb:ByteArray:=⟨#[97,43,98]⟩
theorem points_ab(w:World):Calls prog 11 #[.string apb] w fun e w'=>∃so sc,e=.returned (.slice so 3 sc)∧w'.ownsRow w.heap.size 3 1 (.slice so 3 sc) 3 (i64s [97,43,98])∧Below w.heap.size w w':=by
 obtain⟨o1,c1,w1,ha1,hr1,hl1, -⟩:=app_int (l:=[]) (World.ownsRow_nil w w.heap.size 3 1) (leR _) 97 (by decide)
 obtain⟨o2,c2,w2,ha2,hr2,hl2, -⟩:=app_int (l:=[97]) hr1 hl1.size 43 (by decide)
 obtain⟨o3,c3,w3,ha3,hr3,hl3, -⟩:=app_int (l:=[97,43]) hr2 (Nat.le_trans hl1.size hl2.size) 98 (by decide)
 obtain⟨v0,hv0⟩:=named (Value.slice none 0 0)
 have ha1:(Builtin.append_ #[44,44] 44 #[v0,.slice (some ⟨w.heap.size,0,none⟩) 1 1]).run prog (w.alloc (.cells #[.int .i64 97] 3))=.ok (.slice o1 1 c1) w1:=by rw[hv0];exact ha1
 have ha2:(Builtin.append_ #[44,44] 44 #[.slice o1 1 c1,.slice (some ⟨w1.heap.size,0,none⟩) 1 1]).run prog (w1.alloc (.cells #[.int .i64 43] 3))=.ok (.slice o2 2 c2) w2:=ha2
 have ha3:(Builtin.append_ #[44,44] 44 #[.slice o2 2 c2,.slice (some ⟨w2.heap.size,0,none⟩) 1 1]).run prog (w2.alloc (.cells #[.int .i64 98] 3))=.ok (.slice o3 3 c3) w3:=ha3
 have HR:Hid (w3.ownsRow w.heap.size 3 1 (.slice o3 3 c3) 3 (i64s [97,43,98])):=hr3
 have HL:=hide ((hl1.trans hl2).trans hl3)
 have HA1:=hide ha1
 have HA2:=hide ha2
 have HA3:=hide ha3
 clear ha1 ha2 ha3 hr1 hr2 hr3 hl1 hl2 hl3
 have g0:(apb[0]'(by decide)).toNat=97:=rfl
 have g1:(apb[1]'(by decide)).toNat=43:=rfl
 have g2:(apb[2]'(by decide)).toNat=98:=rfl
 go_enter func11,ntmps11
 go_wp2
 rw[← hv0]
 clear hv0
 refine wp_loop_rounds 4 ?_
 rw[rounds_succ]
 go_wp2_with (at_builtin;refine wpList_run rfl _ _ _ rfl _ _ (.slice o1 1 c1) w1 (by rfl) (by rfl) HA1.out ?_)
 clear HA1
 rw[rounds_succ]
 go_wp2_with (at_builtin;refine wpList_run rfl _ _ _ rfl _ _ (.slice o2 2 c2) w2 (by rfl) (by rfl) HA2.out ?_)
 clear HA2
 rw[rounds_succ]
 go_wp2_with (at_builtin;refine wpList_run rfl _ _ _ rfl _ _ (.slice o3 3 c3) w3 (by rfl) (by rfl) HA3.out ?_)
 clear HA3
 rw[rounds_succ]
 go_wp2
 go_ret
 exact⟨_,_,rfl,HR.out,HL.out⟩
end Go.Proofs.YtfnndcbjklppeaaGreatDoor.En
namespace Go.Proofs.YtfnndcbjklppeaaGreatDoor.Vm
open Go.RowKit
theorem begun_ab(w:World):Calls prog 5 #[] w fun e w'=>e=.returned (.bool true)∧Below w.heap.size w w':=by
 have HC:=hide (En.points_ab w)
 simp only[En.apb]at HC
 go_enter func5,ntmps5
 go_wp2_with fail
 refine HC.out.mono ?_
 rintro e w1 ⟨so,sc,rfl,hr,hb1⟩
 clear HC
 obtain⟨g,c,e⟩:=own_some hr (by decide)
 cases e
 have hR:ReadsI w1 ⟨g,0,none⟩ abL:=fun j hj=>by
  have hj:j<3:=hj
  have:=rowAt hr j hj
  rw[this]
  match j,hj with
  |0,_=>rfl
  |1,_=>rfl
  |2,_=>rfl
 have HC:=hide (parseOf_ab ⟨g,0,none⟩ sc w1 hR)
 have HB1:=hide hb1
 clear hR hr hb1
 go_wp2_with fail
 refine HC.out.mono ?_
 rintro e w2 ⟨n,rfl,hn,hb2⟩
 clear HC
 have HB2:=hide (HB1.out.andT hb2)
 have HN2:=hide hn
 clear HB1 hb2 hn
 obtain⟨W3,hW3⟩:=named ((w2.alloc (.cells #[.int .i64 n.kind,.slice n.sa n.sl n.sc,.slice n.ka n.kl n.kc,.int .i64 n.num,.int .i64 n.least,.int .i64 n.most,.int .i64 n.way,.bool n.fold,.int .i64 0,.slice none 0 0] 35)).alloc (.cells #[.int .i64 0,.int .i64 0] 41))
 have hb3:Below w2.heap.size w2 W3:=by rw[hW3];exact two_below _ _ _
 obtain⟨N,hN⟩:=named w2.heap.size
 have k0:W3.heap[N]? =some (.cells #[.int .i64 n.kind,.slice n.sa n.sl n.sc,.slice n.ka n.kl n.kc,.int .i64 n.num,.int .i64 n.least,.int .i64 n.most,.int .i64 n.way,.bool n.fold,.int .i64 0,.slice none 0 0] 35):=by rw[hW3,hN];exact at_old (at_new _ _)
 have k1:W3.heap[N+1]? =some fltZ:=by rw[hW3,hN];exact at_new' _ _ (by simp)
 have q0:W3.cell? ⟨N,0,none⟩=some (.int .i64 n.kind):=by simp[World.cell?,k0]
 have q1:W3.cell? ⟨N,1,none⟩=some (.slice n.sa n.sl n.sc):=by simp[World.cell?,k0]
 have q2:W3.cell? ⟨N,2,none⟩=some (.slice n.ka n.kl n.kc):=by simp[World.cell?,k0]
 have q3:W3.cell? ⟨N,3,none⟩=some (.int .i64 n.num):=by simp[World.cell?,k0]
 have q4:W3.cell? ⟨N,4,none⟩=some (.int .i64 n.least):=by simp[World.cell?,k0]
 have q5:W3.cell? ⟨N,5,none⟩=some (.int .i64 n.most):=by simp[World.cell?,k0]
 have q6:W3.cell? ⟨N,6,none⟩=some (.int .i64 n.way):=by simp[World.cell?,k0]
 have q7:W3.cell? ⟨N,7,none⟩=some (.bool n.fold):=by simp[World.cell?,k0]
 have q8:W3.cell? ⟨N,8,none⟩=some (.int .i64 0):=by simp[World.cell?,k0]
 have q9:W3.cell? ⟨N,9,none⟩=some (.slice none 0 0):=by simp[World.cell?,k0]
 have HC:=hide (Mk.make_ab n W3 (HN2.out.keep hb3))
 simp only[patNV]at HC
 have HB3:=hide (HB2.out.andT hb3)
 have HK1:=hide k1
 clear HB2 HN2 hb3 k0 k1
 go_upto_region 2 with fail
 rw[← hW3, ←hN]
 clear hW3 hN
 go_wp2_with fail
 refine HC.out.mono ?_
 rintro e w4 ⟨L,oc,x,so0,so1,so2,so3,so4,so5,so6,so7,rfl,hb4,hO,hp,hoc,ho0,ho1,ho2,ho3,ho4,ho5,ho6,ho7,hs3,hs6⟩
 clear HC q0 q1 q2 q3 q4 q5 q6 q7 q8 q9
 obtain⟨W5,hW5⟩:=named (w4.alloc (prO (some x) 8 oc 0 1))
 have hb5:Below w4.heap.size w4 W5:=by rw[hW5];exact allocB _ _
 obtain⟨M,hM⟩:=named w4.heap.size
 have m0:W5.heap[M]? =some (prO (some x) 8 oc 0 1):=by rw[hW5,hM];exact at_new _ _
 obtain⟨y0,y1,y2⟩:=pr_cells m0
 have HC:=hide (runCode_ab L oc x so0 so1 so2 so3 so4 so5 so6 so7 W5 (hO.below hb5) hp hoc (ho0.below hb5) (ho1.below hb5) (ho2.below hb5) (ho3.below hb5) (ho4.below hb5) (ho5.below hb5) (ho6.below hb5) (ho7.below hb5) (hs3.below hb5) (hs6.below hb5))
 simp only[prV,En.aab]at HC
 have hB4:=HB3.out.andT hb4
 have HB5:=hide (hB4.andT hb5)
 have HK5:=hide (below_at hb5 (below_at hb4 HK1.out))
 simp only[prO]at hW5
 clear hO hp hoc ho0 ho1 ho2 ho3 ho4 ho5 ho6 ho7 hs3 hs6 hb4 hb5 hB4 m0 HB3 HK1
 simp only[prV]
 go_upto_region 3 with fail
 rw[← hW5, ←hM]
 clear hW5 hM
 go_wp2_with fail
 refine HC.out.mono ?_
 rintro e w6 ⟨rfl,hb6⟩
 clear HC y0 y1 y2
 obtain⟨W7,hW7⟩:=named (w6.alloc (maO 0 3))
 have hb7:Below w6.heap.size w6 W7:=by rw[hW7];exact allocB _ _
 obtain⟨Z,hZ⟩:=named w6.heap.size
 have z0:W7.heap[Z]? =some (maO 0 3):=by rw[hW7,hZ];exact at_new _ _
 have z1:W7.cell? ⟨Z,1,none⟩=some (.int .i64 3):=by simp[World.cell?,z0]
 have hk7:=below_at hb7 (below_at hb6 HK5.out)
 have z2:W7.cell? ⟨N+1,0,none⟩=some (.int .i64 0):=by simp[World.cell?,hk7]
 have hB6:=HB5.out.andT hb6
 have HB7:=hide (hB6.andT hb7)
 simp only[maO]at hW7
 clear hb6 hb7 hk7 hB6 HB5 HK5 z0
 go_upto_region 4 with fail
 rw[← hW7, ←hZ]
 clear hW7 hZ
 go_wp2
 go_ret
 exact⟨rfl,HB7.out⟩
end Go.Proofs.YtfnndcbjklppeaaGreatDoor.Vm
