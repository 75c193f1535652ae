import Derived.Test.YtfnndcbjklppeaaGreatDoorVS2
import Derived.Test.YtfnndcbjklppeaaGreatDoorVT2
import Derived.Deep.RegionWith
import Derived.BigRegion
import Derived.OrdersHeld
import Derived.Deep.RegionHeld3
set_option maxHeartbeats 4000000
set_option maxRecDepth 1000000
set_option linter.unusedVariables false
open Go.Proofs.Tryz
namespace Go.Proofs.YtfnndcbjklppeaaGreatDoor
open Go.RowKit
abbrev prsO(x:Addr)(c:Nat)(i:Int):Obj:=.cells #[.int .i64 1,.slice (some x) 3 c,.int .i64 i,.bool false,.int .i64 0,.int .i64 0,.slice none 0 0,.slice none 0 0,.slice none 0 0,.slice none 0 0,.int .i64 0,.int .i64 0] 66
theorem prs_cells{w:World}{k:Nat}{x:Addr}{c:Nat}{i:Int}(h:w.heap[k]? =some (prsO x c i)):w.cell? ⟨k,0,none⟩=some (.int .i64 1)∧w.cell? ⟨k,1,none⟩=some (.slice (some x) 3 c)∧w.cell? ⟨k,2,none⟩=some (.int .i64 i)∧w.cell? ⟨k,3,none⟩=some (.bool false)∧w.cell? ⟨k,4,none⟩=some (.int .i64 0)∧w.cell? ⟨k,5,none⟩=some (.int .i64 0)∧w.cell? ⟨k,6,none⟩=some (.slice none 0 0)∧w.cell? ⟨k,7,none⟩=some (.slice none 0 0)∧w.cell? ⟨k,8,none⟩=some (.slice none 0 0)∧w.cell? ⟨k,9,none⟩=some (.slice none 0 0)∧w.cell? ⟨k,10,none⟩=some (.int .i64 0)∧w.cell? ⟨k,11,none⟩=some (.int .i64 0):=by
 refine⟨?_,?_,?_,?_,?_,?_,?_,?_,?_,?_,?_,?_⟩<;>simp[World.cell?,h]
theorem ret_w1{f:Func}{tmps:Array Value}{W:World}{N s a:Nat}{t:Tok}{k:Int}{R:Ending→World→Prop}(hres:f.results=#[ResultVar.cell s 112,ResultVar.tmp a])(h6:tmps[s]? =some (.pointer (some ⟨N,0,none⟩)))(h7:tmps[a]? =some (.int .i64 k))(q0:W.heap[N]? =some (tokO t))(hF:R (.returned (.tuple #[tokV t,.int .i64 k])) W):
  bodyPost prog f R Exit.ret { tmps:=tmps,defers:=[] } W:=by
 obtain⟨m0,m1,m2,m3,m4,m5,m6,m7⟩:=tok_cells q0
 refine bodyPost_ret (v:=.tuple #[tokV t,.int .i64 k]) ?_ rfl hF
 simp[results,hres,go_sem,h6,h7,m0,m1,m2,m3,m4,m5,m6,m7,tokV]
theorem drew_hp(X:World):X.drew.heap=X.heap:=rfl
theorem drewB{B:Nat}{w W:World}(h:Below B w W):Below B w W.drew:=⟨h.1,h.2,h.3,h.4,h.5⟩
theorem token_3(pb:Nat)(x:Addr)(c:Nat)(w:World)(hP:w.heap[pb]? =some (prsO x c 3)):Calls prog 51 #[.pointer (some ⟨pb,0,none⟩)] w fun e w'=>e=.returned (.tuple #[tokV {},.int .i64 3])∧Below w.heap.size w w':=by
 have hb1:Below w.heap.size w (w.alloc (tokO {})):=allocB _ _
 obtain⟨w1,hw1⟩:=named (w.alloc (tokO {}))
 have hT:w1.heap[w.heap.size]? =some (tokO {}):=by rw[hw1];exact at_new _ _
 have hP1:w1.heap[pb]? =some (prsO x c 3):=by rw[hw1];exact at_old hP
 rw[← hw1]at hb1
 have HB1:=hide hb1
 have HT:=hide hT
 obtain⟨p0,p1,p2,p3,p4,p5,p6,p7,p8,p9,p10,p11⟩:=prs_cells hP1
 obtain⟨m0,m1,m2,m3,m4,m5,m6,m7⟩:=tok_cells hT
 have fr0:=tok_free hT
 simp only[tokO]at hw1
 have HP1:=hide hP1
 have hne:pb<w.heap.size:=lt_of_block hP
 clear hb1 hP1 hT hP
 go_enter func51,ntmps51
 go_upto_region 1 with fail
 rw[← hw1]
 clear hw1
 go_quiet (fail)
 go_wp2
 obtain⟨w2,hw2⟩:=named (w1.drewN nq)
 have hh:w2.heap=w1.heap:=by rw[hw2];rfl
 have HB2:=hide (HB1.out.trans ((drew_below hw2).mono HB1.out.size))
 have HT2:Hid (w2.heap[w.heap.size]? =some (tokO {})):=by show _=_;rw[hh];exact HT.out
 have HP2:Hid (w2.heap[pb]? =some (prsO x c 3)):=by show _=_;rw[hh];exact HP1.out
 rw[← hw2]
 clear hw2 hh p0 p1 p2 p3 p4 p5 p6 p7 p8 p9 p10 p11 m0 m1 m2 m3 m4 m5 m6 m7 fr0
 obtain⟨p0,p1,p2,p3,p4,p5,p6,p7,p8,p9,p10,p11⟩:=prs_cells HP2.out
 obtain⟨m0,m1,m2,m3,m4,m5,m6,m7⟩:=tok_cells HT2.out
 have fr0:=tok_free HT2.out
 go_region
 go_wp2
 have h4:(tset w2 w.heap.size {}).drew.heap[w.heap.size]? =some (tokO {}):=by rw[drew_hp];exact tok_set HT2.out {}
 have hB4:Below w.heap.size w (tset w2 w.heap.size {}).drew:=drewB (tset_below HB2.out (leR _) {})
 obtain⟨w4,hw4⟩:=named ((tset w2 w.heap.size {}).drew)
 change bodyPost _ _ _ _ _ (tset w2 w.heap.size {}).drew
 rw[← hw4]at h4 hB4 ⊢
 exact ret_w1 (N:=w.heap.size) (t:={}) (k:=3) rfl rfl rfl h4 ⟨rfl,hB4⟩
theorem token_at(i:Nat)(t:Tok)(k:Int)(hi:i<3)(pb:Nat)(x:Addr)(c:Nat)(w:World)(hP:w.heap[pb]? =some (prsO x c i))(hr:ReadsI w x abL)
  (hT:∀W,ReadsI W x abL→Calls prog 80 #[.int .i64 1,.slice (some x) 3 c,.int .i64 i] W fun e w'=>e=.returned (.tuple #[tokV t,.int .i64 k,.int .i64 0])∧Below W.heap.size W w'):Calls prog 51 #[.pointer (some ⟨pb,0,none⟩)] w fun e w'=>e=.returned (.tuple #[tokV t,.int .i64 k])∧Below w.heap.size w w':=by
 have hb1:Below w.heap.size w (w.alloc (tokO {})):=allocB _ _
 obtain⟨w1,hw1⟩:=named (w.alloc (tokO {}))
 have hTk:w1.heap[w.heap.size]? =some (tokO {}):=by rw[hw1];exact at_new _ _
 have hP1:w1.heap[pb]? =some (prsO x c i):=by rw[hw1];exact at_old hP
 rw[← hw1]at hb1
 have HB1:=hide hb1
 have HTk:=hide hTk
 have HR1:=hide (hr.below hb1)
 have HTA:=hide hT
 obtain⟨p0,p1,p2,p3,p4,p5,p6,p7,p8,p9,p10,p11⟩:=prs_cells hP1
 simp only[tokO]at hw1
 have HP1:=hide hP1
 have hne:pb<w.heap.size:=lt_of_block hP
 have e1:¬(3:Int)≤(i:Int):=by omega
 have e2:decide ((3:Int)≤(i:Int))=false:=decide_eq_false e1
 clear hb1 hP1 hTk hP hr hT hi
 go_enter func51,ntmps51
 go_upto_region 1 with fail
 rw[← hw1]
 clear hw1
 go_quiet (fail)
 go_wp2
 obtain⟨w2,hw2⟩:=named (w1.drewN nq)
 have hh:w2.heap=w1.heap:=by rw[hw2];rfl
 have hb2:=drew_below hw2
 have HB2:=hide (HB1.out.andT hb2)
 have HT2:=hide (below_at hb2 HTk.out)
 have HP2:=hide (below_at hb2 HP1.out)
 have HR2:=hide (HR1.out.below hb2)
 rw[← hw2]
 clear hw2 hh hb2 p0 p1 p2 p3 p4 p5 p6 p7 p8 p9 p10 p11
 obtain⟨p0,p1,p2,p3,p4,p5,p6,p7,p8,p9,p10,p11⟩:=prs_cells HP2.out
 have HS:Hid (Below w2.heap.size w2 w2.drew):=⟨rfl,rfl,rfl,leR _,fun _ _=>rfl⟩
 have HCl:Hid (∀w',Below w2.heap.size w2 w'→w'.cell? ⟨pb,0,none⟩=some (.int .i64 1)∧w'.cell? ⟨pb,1,none⟩=some (.slice (some x) 3 c)∧w'.cell? ⟨pb,2,none⟩=some (.int .i64 i)):=fun w' hS=>by
  obtain⟨y0,y1,y2, -⟩:=prs_cells (below_at hS HP2.out)
  exact⟨y0,y1,y2⟩
 have HD:Hid (∀W,Below w2.heap.size w2 W→Calls prog 80 #[.int .i64 1,.slice (some x) 3 c,.int .i64 i] W fun e w'=>e=.returned (.tuple #[.agg #[.int .i64 t.kind,.int .i64 t.num,.string t.text,.bool t.neg,.int .i64 t.least,.int .i64 t.most,.int .i64 t.way,.int .i64 t.fold],.int .i64 k,.int .i64 0])∧Below w2.heap.size w2 w'∧Below W.heap.size W w'):=fun W hW=>(HTA.out W (HR2.out.below hW)).mono fun e w' ⟨h1,h2⟩=>⟨h1,hW.andT h2,h2⟩
 clear p0 p1 p2 p3 p4 p5 p6 p7 p8 p9 p10 p11
 refine wp_region_held (S:=fun w'=>Below w2.heap.size w2 w') (by kernel_rfl) ?_
 change wpAnyH _ _ _ _ _ _ _ _ (World.drew _)
 refine takeH 0 (.pointer (some ⟨pb,0,none⟩)) rfl (fun _ _ _ h=>h) HS.out (fun w' hS=>?_) ?_
 ·go_simp
 refine takeH 1 (.pointer (some ⟨pb,0,none⟩)) rfl (fun _ _ _ h=>h) HS.out (fun w' hS=>?_) ?_
 ·go_simp
 refine takeH 2 (.pointer (some ⟨pb,0,none⟩)) rfl (fun _ _ _ h=>h) HS.out (fun w' hS=>?_) ?_
 ·go_simp
 refine takeH 3 (.int .i64 1) rfl (fun _ _ _ h=>h) HS.out (fun w' hS=>?_) ?_
 ·(obtain⟨y0,y1,y2⟩:=HCl.out w' hS;go_simp)
 refine takeH 4 (.pointer (some ⟨pb,0,none⟩)) rfl (fun _ _ _ h=>h) HS.out (fun w' hS=>?_) ?_
 ·go_simp
 refine takeH 5 (.pointer (some ⟨pb,0,none⟩)) rfl (fun _ _ _ h=>h) HS.out (fun w' hS=>?_) ?_
 ·go_simp
 refine takeH 6 (.pointer (some ⟨pb,1,none⟩)) rfl (fun _ _ _ h=>h) HS.out (fun w' hS=>?_) ?_
 ·go_simp
 refine takeH 7 (.slice (some x) 3 c) rfl (fun _ _ _ h=>h) HS.out (fun w' hS=>?_) ?_
 ·(obtain⟨y0,y1,y2⟩:=HCl.out w' hS;go_simp)
 refine takeH 8 (.pointer (some ⟨pb,0,none⟩)) rfl (fun _ _ _ h=>h) HS.out (fun w' hS=>?_) ?_
 ·go_simp
 refine takeH 9 (.pointer (some ⟨pb,0,none⟩)) rfl (fun _ _ _ h=>h) HS.out (fun w' hS=>?_) ?_
 ·go_simp
 refine takeH 10 (.pointer (some ⟨pb,2,none⟩)) rfl (fun _ _ _ h=>h) HS.out (fun w' hS=>?_) ?_
 ·go_simp
 refine takeH 11 (.int .i64 i) rfl (fun _ _ _ h=>h) HS.out (fun w' hS=>?_) ?_
 ·(obtain⟨y0,y1,y2⟩:=HCl.out w' hS;go_simp)
 refine wpAnyH_ready (rs:=[12,17]) (by kernel_rfl) (by simp) ?_
 refine AllReadyH.cons rfl (fun K hK=>?_) (AllReadyH.cons rfl (fun K hK=>?_) AllReadyH.nil)
 ·go_simp
  refine(HD.out _ HS.out).mono ?_
  rintro e w3 ⟨rfl,hbW,hbc⟩
  refine hK.out _ _ hbW (fun _=>?_)
  clear hK K
  refine takeH 13 (.tuple #[.agg #[.int .i64 t.kind,.int .i64 t.num,.string t.text,.bool t.neg,.int .i64 t.least,.int .i64 t.most,.int .i64 t.way,.int .i64 t.fold],.int .i64 k,.int .i64 0]) rfl (fun _ _ _ h=>h) hbW (fun w' hS=>?_) ?_
  ·go_simp
  refine takeH 14 (.agg #[.int .i64 t.kind,.int .i64 t.num,.string t.text,.bool t.neg,.int .i64 t.least,.int .i64 t.most,.int .i64 t.way,.int .i64 t.fold]) rfl (fun _ _ _ h=>h) hbW (fun w' hS=>?_) ?_
  ·go_simp
  refine takeH 15 (.int .i64 k) rfl (fun _ _ _ h=>h) hbW (fun w' hS=>?_) ?_
  ·go_simp
  refine takeH 16 (.int .i64 0) rfl (fun _ _ _ h=>h) hbW (fun w' hS=>?_) ?_
  ·go_simp
  refine wpAnyH_ready (rs:=[17]) (by kernel_rfl) (by simp) ?_
  refine AllReadyH.cons rfl (fun K hK=>?_) AllReadyH.nil
  go_simp
  refine hK.out _ _ (hbW.alloc hbW.size _) (fun hS2=>?_)
  clear hK K
  refine wpAnyH_ready (rs:=[18]) (by kernel_rfl) (by simp) ?_
  refine AllReadyH.cons rfl (fun K hK=>?_) AllReadyH.nil
  go_simp
  refine hK.out _ _ (hbW.alloc hbW.size _) (fun hS3=>?_)
  clear hK K
  refine takeH 19 (.int .i64 k) rfl (fun _ _ _ h=>h) hS3 (fun w' hS=>?_) ?_
  ·go_simp
  refine takeH 20 (.int .i64 0) rfl (fun _ _ _ h=>h) hS3 (fun w' hS=>?_) ?_
  ·go_simp
  refine wpAnyH_done (by kernel_rfl) ?_ _
  have hM3:=at_new w3 (tokO t)
  have hM3l:=hbW.size
  obtain⟨w4,hw4⟩:=named (w3.alloc (tokO t))
  obtain⟨M,hMM⟩:=named w3.heap.size
  rw[← hw4]at hM3
  simp only[tokO]at hw4
  rw[← hw4]at hS3 ⊢
  rw[← hMM]at hM3 hM3l ⊢
  clear hw4 hMM hbc hS2 hbW
  have HB3:=hide (HB2.out.andT hS3)
  have hN3:=below_at hS3 HT2.out
  have HN3:=hide hN3
  obtain⟨g0,g1,g2,g3,g4,g5,g6,g7⟩:=tok_cells hM3
  obtain⟨m0,m1,m2,m3,m4,m5,m6,m7⟩:=tok_cells hN3
  have fr0:=tok_free hN3
  have hNM:w.heap.size<M:=Nat.lt_of_lt_of_le (lt_of_block HT2.out) hM3l
  have hMN:¬M=w.heap.size:=by omega
  have hNM2:¬w.heap.size=M:=by omega
  obtain⟨N,hNN⟩:=named w.heap.size
  have HNw:=hide hNN
  rw[← hNN]at m0 m1 m2 m3 m4 m5 m6 m7 fr0 HN3 hMN hNM2 ⊢
  clear hN3 hM3 hS3 hM3l hNM hNN HT2 HP2 HR2 HS HCl HD HTA HB1 HTk HP1 HR1
  go_wp2
  exact ret_t1 (N:=N) (t0:={}) (W:=w4) (t:=t) (k:=k) rfl rfl rfl HN3.out ⟨rfl,tset_below HB3.out (Nat.le_of_eq HNw.out.symm) t⟩
 ·go_simp
  have hb1:Below w2.heap.size w2 (w2.alloc (tokO {})).drew:=drewB (allocB w2 _)
  refine hK.out _ _ hb1 (fun hS1=>?_)
  clear hK K
  refine wpAnyH_ready (rs:=[12]) (by kernel_rfl) (by simp) ?_
  refine AllReadyH.cons rfl (fun K hK=>?_) AllReadyH.nil
  go_simp
  refine(HD.out _ hS1).mono ?_
  rintro e w3 ⟨rfl,hbW,hbc⟩
  have hM:w3.heap[w2.heap.size]? =some (tokO {}):=by rw[hbc.block _ (by show _<(w2.alloc _).heap.size;simp)];exact at_new _ _
  obtain⟨g0,g1,g2,g3,g4,g5,g6,g7⟩:=tok_cells hM
  have gf:=tok_free hM
  refine hK.out _ _ hbW (fun _=>?_)
  clear hK K
  refine takeH 13 (.tuple #[.agg #[.int .i64 t.kind,.int .i64 t.num,.string t.text,.bool t.neg,.int .i64 t.least,.int .i64 t.most,.int .i64 t.way,.int .i64 t.fold],.int .i64 k,.int .i64 0]) rfl (fun _ _ _ h=>h) hbW (fun w' hS=>?_) ?_
  ·go_simp
  refine takeH 14 (.agg #[.int .i64 t.kind,.int .i64 t.num,.string t.text,.bool t.neg,.int .i64 t.least,.int .i64 t.most,.int .i64 t.way,.int .i64 t.fold]) rfl (fun _ _ _ h=>h) hbW (fun w' hS=>?_) ?_
  ·go_simp
  refine takeH 15 (.int .i64 k) rfl (fun _ _ _ h=>h) hbW (fun w' hS=>?_) ?_
  ·go_simp
  refine takeH 16 (.int .i64 0) rfl (fun _ _ _ h=>h) hbW (fun w' hS=>?_) ?_
  ·go_simp
  refine wpAnyH_ready (rs:=[18]) (by kernel_rfl) (by simp) ?_
  refine AllReadyH.cons rfl (fun K hK=>?_) AllReadyH.nil
  go_simp
  have hS3':=tset_below hbW (leR _) t
  refine hK.out _ _ hS3' (fun hS3=>?_)
  clear hK K
  refine takeH 19 (.int .i64 k) rfl (fun _ _ _ h=>h) hS3 (fun w' hS=>?_) ?_
  ·go_simp
  refine takeH 20 (.int .i64 0) rfl (fun _ _ _ h=>h) hS3 (fun w' hS=>?_) ?_
  ·go_simp
  refine wpAnyH_done (by kernel_rfl) ?_ _
  have hM3:=tok_set hM t
  have hM3l:=Nat.le_refl w2.heap.size
  obtain⟨w4,hw4⟩:=named (tset w3 w2.heap.size t)
  obtain⟨M,hMM⟩:=named w2.heap.size
  simp only[tset]at hw4
  rw[← hw4]at hM3 hS3 ⊢
  rw[← hMM]at hM3 ⊢
  replace hM3l:w2.heap.size≤M:=by omega
  clear hw4 hMM hbc hS1 hb1 hbW hM g0 g1 g2 g3 g4 g5 g6 g7 gf hS3'
  have HB3:=hide (HB2.out.andT hS3)
  have hN3:=below_at hS3 HT2.out
  have HN3:=hide hN3
  obtain⟨g0,g1,g2,g3,g4,g5,g6,g7⟩:=tok_cells hM3
  obtain⟨m0,m1,m2,m3,m4,m5,m6,m7⟩:=tok_cells hN3
  have fr0:=tok_free hN3
  have hNM:w.heap.size<M:=Nat.lt_of_lt_of_le (lt_of_block HT2.out) hM3l
  have hMN:¬M=w.heap.size:=by omega
  have hNM2:¬w.heap.size=M:=by omega
  obtain⟨N,hNN⟩:=named w.heap.size
  have HNw:=hide hNN
  rw[← hNN]at m0 m1 m2 m3 m4 m5 m6 m7 fr0 HN3 hMN hNM2 ⊢
  clear hN3 hM3 hS3 hM3l hNM hNN HT2 HP2 HR2 HS HCl HD HTA HB1 HTk HP1 HR1
  go_wp2
  exact ret_t1 (N:=N) (t0:={}) (W:=w4) (t:=t) (k:=k) rfl rfl rfl HN3.out ⟨rfl,tset_below HB3.out (Nat.le_of_eq HNw.out.symm) t⟩
theorem token_0(pb:Nat)(x:Addr)(c:Nat)(w:World)(hP:w.heap[pb]? =some (prsO x c 0))(hr:ReadsI w x abL):Calls prog 51 #[.pointer (some ⟨pb,0,none⟩)] w fun e w'=>e=.returned (.tuple #[tokV (pointT 97),.int .i64 1])∧Below w.heap.size w w':=
 token_at 0 (pointT 97) 1 (by omega) pb x c w hP hr (fun W h=>tokenAt_0 x c W h)
theorem token_1(pb:Nat)(x:Addr)(c:Nat)(w:World)(hP:w.heap[pb]? =some (prsO x c 1))(hr:ReadsI w x abL):Calls prog 51 #[.pointer (some ⟨pb,0,none⟩)] w fun e w'=>e=.returned (.tuple #[tokV repT,.int .i64 2])∧Below w.heap.size w w':=
 token_at 1 repT 2 (by omega) pb x c w hP hr (fun W h=>tokenAt_1 x c W h)
theorem token_2(pb:Nat)(x:Addr)(c:Nat)(w:World)(hP:w.heap[pb]? =some (prsO x c 2))(hr:ReadsI w x abL):Calls prog 51 #[.pointer (some ⟨pb,0,none⟩)] w fun e w'=>e=.returned (.tuple #[tokV (pointT 98),.int .i64 3])∧Below w.heap.size w w':=
 token_at 2 (pointT 98) 3 (by omega) pb x c w hP hr (fun W h=>tokenAt_2 x c W h)
theorem ret_node{f:Func}{tmps:Array Value}{W:World}{N s:Nat}{n:NV}{R:Ending→World→Prop}(hres:f.results=#[ResultVar.cell s 32])(h2:tmps[s]? =some (.pointer (some ⟨N,0,none⟩)))(q1:NCells W ⟨N,0,none⟩ n)(hF:R (.returned (nvV n)) W):
  bodyPost prog f R Exit.ret { tmps:=tmps,defers:=[] } W:=by
 refine bodyPost_ret (v:=nvV n) ?_ rfl hF
 have c0:=q1.c0
 have c1:=q1.c1
 have c2:=q1.c2
 have c3:=q1.c3
 have c4:=q1.c4
 have c5:=q1.c5
 have c6:=q1.c6
 have c7:=q1.c7
 simp only[Nat.zero_add]at c0 c1 c2 c3 c4 c5 c6 c7
 simp[results,hres,go_sem,h2,c0,c1,c2,c3,c4,c5,c6,c7]
structure Kpb(pb:Nat)(w w':World):Prop where
 size:w.heap.size≤w'.heap.size
 keep:∀b o,w.heap[b]? =some o→b≠pb→w'.heap[b]? =some o
 low:∀B w0,B≤pb→Below B w0 w→Below B w0 w'
theorem Kpb.of{pb:Nat}{w w':World}(hp:pb<w.heap.size)(h:Below w.heap.size w w'):Kpb pb w w':=
 ⟨h.size,fun b o hb _=>below_at h hb,fun B w0 hB h0=>h0.trans (h.mono (by omega))⟩
theorem Kpb.trans{pb:Nat}{w w1 w2:World}(h:Kpb pb w w1)(h':Kpb pb w1 w2):Kpb pb w w2:=
 ⟨Nat.le_trans h.size h'.size,fun b o hb hn=>h'.keep b o (h.keep b o hb hn) hn,fun B w0 hB h0=>h'.low B w0 hB (h.low B w0 hB h0)⟩
theorem Kpb.set{pb:Nat}{w:World}(o:Nat)(v:Value):Kpb pb w (w.setCell ⟨pb,o,none⟩ v):=
 ⟨by simp,fun b ob hb hn=>by rw[Below.heap_setCell _ _ _ _ (by simpa using hn)];exact hb,fun B w0 hB h0=>h0.setCell (p:=⟨pb,o,none⟩) hB v⟩
theorem prs_set{w:World}{pb:Nat}{x:Addr}{c:Nat}{i:Int}(h:w.heap[pb]? =some (prsO x c i))(k:Int):(w.setCell ⟨pb,2,none⟩ (.int .i64 k)).heap[pb]? =some (prsO x c k):=by
 rw[set_oneQ h]
 simp
theorem prs_fold{w:World}{pb:Nat}{x:Addr}{c:Nat}{i:Int}(h:w.heap[pb]? =some (prsO x c i)):(w.setCell ⟨pb,3,none⟩ (.bool false)).heap[pb]? =some (prsO x c i):=by
 rw[set_oneQ h]
 simp
abbrev nset(W:World)(N:Nat)(n:NV):World:=((((((((W.setCell ⟨N,0,none⟩ (.int .i64 n.kind)).setCell ⟨N,1,none⟩ (.slice n.sa n.sl n.sc)).setCell ⟨N,2,none⟩ (.slice n.ka n.kl n.kc)).setCell ⟨N,3,none⟩ (.int .i64 n.num)).setCell ⟨N,4,none⟩ (.int .i64 n.least)).setCell ⟨N,5,none⟩ (.int .i64 n.most)).setCell ⟨N,6,none⟩ (.int .i64 n.way)).setCell ⟨N,7,none⟩ (.bool n.fold))
theorem nv_set{w:World}{N:Nat}{n0:NV}(h:w.heap[N]? =some (nvO n0))(n:NV):(nset w N n).heap[N]? =some (nvO n):=by
 unfold nset
 rw[set_oneQ (set_oneQ (set_oneQ (set_oneQ (set_oneQ (set_oneQ (set_oneQ (set_oneQ h _ _) _ _) _ _) _ _) _ _) _ _) _ _) _ _]
 simp[nvO]
theorem nset_keep{w:World}{N b:Nat}(n:NV)(h:b≠N):(nset w N n).heap[b]? =w.heap[b]? :=by
 unfold nset
 have e:∀(W:World) (o:Nat) (v:Value),(W.setCell ⟨N,o,none⟩ v).heap[b]? =W.heap[b]? :=fun W o v=>Below.heap_setCell _ _ _ _ (by simpa using h)
 rw[e,e,e,e,e,e,e,e]
theorem nset_size{w:World}{N:Nat}(n:NV):(nset w N n).heap.size=w.heap.size:=by simp[nset]
theorem Kpb.nset{pb N:Nat}{w w':World}(h:Kpb pb w w')(hN:w.heap.size≤N)(hp:pb<w.heap.size)(n:NV):Kpb pb w (nset w' N n):=
 ⟨by rw[nset_size];exact h.size,fun b o hb hn=>by rw[nset_keep n (by have:=lt_of_block hb;omega)];exact h.keep b o hb hn,fun B w0 hB h0=>below_tok (h.low B w0 hB h0) (by omega) _ _ _ _ _ _ _ _⟩
abbrev rgO(p:Int):Obj:=.cells #[.int .i64 p,.int .i64 p] 101
abbrev setN(r:Nat):NV:=⟨2,some ⟨r,0,none⟩,1,1,none,0,0,0,0,0,0,false⟩
theorem points_any(pb:Nat)(x:Addr)(c:Nat)(i:Int)(v:Value)(w:World)(hv:∃a l c,v=.slice a l c)(hP:w.heap[pb]? =some (prsO x c i)):Calls prog 117 #[.pointer (some ⟨pb,0,none⟩),v] w fun e w'=>e=.returned v∧w'=w:=by
 obtain⟨a,l,cc,rfl⟩:=hv
 obtain⟨p0,p1,p2,p3,p4,p5,p6,p7,p8,p9,p10,p11⟩:=prs_cells hP
 clear hP
 go_enter func117,ntmps117
 go_wp2
 go_ret
 exact⟨rfl,rfl⟩
theorem setNode_any(r:Nat)(w:World):Calls prog 116 #[.slice (some ⟨r,0,none⟩) 1 1] w fun e w'=>e=.returned (nvV (setN r))∧Below w.heap.size w w':=by
 go_enter func116,ntmps116
 go_wp2
 exact ret_node (N:=w.heap.size) (n:=setN r) rfl rfl (nv_cells (at_new _ _)) ⟨rfl,allocB _ _⟩
theorem atom_pt(p:Int)(pb:Nat)(x:Addr)(c:Nat)(i to:Int)(w:World)(hP:w.heap[pb]? =some (prsO x c i)):Calls prog 79 #[.pointer (some ⟨pb,0,none⟩),tokV (pointT p),.int .i64 to] w fun e w'=>∃r,e=.returned (nvV (setN r))∧w.heap.size≤r∧w'.heap[r]? =some (rgO p)∧w'.heap[pb]? =some (prsO x c to)∧Kpb pb w w':=by
 have hlt:=lt_of_block hP
 have hb1:Below w.heap.size w ((w.alloc (tokO (pointT p))).alloc (nvO ⟨0,none,0,0,none,0,0,0,0,0,0,false⟩)):=two_below _ _ _
 obtain⟨w1,hw1⟩:=named ((w.alloc (tokO (pointT p))).alloc (nvO ⟨0,none,0,0,none,0,0,0,0,0,0,false⟩))
 have hx1:w1.heap[w.heap.size]? =some (tokO (pointT p)):=by rw[hw1];exact at_old (at_new _ _)
 have hx2:w1.heap[w.heap.size+1]? =some (nvO ⟨0,none,0,0,none,0,0,0,0,0,0,false⟩):=by rw[hw1];exact at_new' _ _ (by simp)
 have hP1:w1.heap[pb]? =some (prsO x c i):=by rw[hw1];exact at_old (at_old hP)
 rw[← hw1]at hb1
 have fr:∀o,w1.frozen? ⟨pb,o,none⟩=false:=fun o=>by simp[World.frozen?,hP1]
 obtain⟨p0,p1,p2,p3,p4,p5,p6,p7,p8,p9,p10,p11⟩:=prs_cells hP1
 -- the world behind the store
 obtain⟨w2,hw2⟩:=named (w1.setCell ⟨pb,2,none⟩ (.int .i64 to))
 have hk2:Kpb pb w w2:=by rw[hw2];exact(Kpb.of hlt hb1).trans (Kpb.set 2 _)
 have hP2:w2.heap[pb]? =some (prsO x c to):=by rw[hw2];exact prs_set hP1 to
 have hy1:w2.heap[w.heap.size]? =some (tokO (pointT p)):=by rw[hw2];exact(Kpb.set (w:=w1) 2 (.int .i64 to)).keep _ _ hx1 (by omega)
 have hy2:w2.heap[w.heap.size+1]? =some (nvO ⟨0,none,0,0,none,0,0,0,0,0,0,false⟩):=by rw[hw2];exact(Kpb.set (w:=w1) 2 (.int .i64 to)).keep _ _ hx2 (by omega)
 have HK2:=hide hk2
 have HP2:=hide hP2
 have HY1:=hide hy1
 have HY2:=hide hy2
 simp only[tokO,pointT,nvO]at hw1
 simp only[tokV,pointT]
 clear hk2 hP2 hy1 hy2 hx1 hx2 hP1 hb1 hP
 go_enter func79,ntmps79
 go_upto_region 1 with fail
 rw[← hw1]
 clear hw1
 go_upto_region 3 with fail
 rw[← hw2]
 clear hw2 p0 p1 p2 p3 p4 p5 p6 p7 p8 p9 p10 p11 fr
 obtain⟨m0,m1,m2,m3,m4,m5,m6,m7⟩:=tok_cells HY1.out
 simp only[pointT]at m0 m1 m2 m3 m4 m5 m6 m7
 have hb3:Below w2.heap.size w2 (w2.alloc (rgO p)):=allocB _ _
 obtain⟨w3,hw3⟩:=named (w2.alloc (rgO p))
 have hr3:w3.heap[w2.heap.size]? =some (rgO p):=by rw[hw3];exact at_new _ _
 rw[← hw3]at hb3
 have HP3:=hide (below_at hb3 HP2.out)
 have HN3:=hide (below_at hb3 HY2.out)
 have HK3:=hide (HK2.out.trans (Kpb.of (lt_of_block HP2.out) hb3))
 have HR3:=hide hr3
 have HL:Hid (w.heap.size≤w2.heap.size):=HK2.out.size
 obtain⟨r,hr⟩:=named w2.heap.size
 rw[← hr]at HR3 HL
 have HC1:=hide (points_any pb x c to (.slice (some ⟨r,0,none⟩) 1 1) w3 ⟨_,_,_,rfl⟩ HP3.out)
 have HC2:=hide (setNode_any r w3)
 simp only[rgO]at hw3
 clear hb3 hr3
 go_wp2_with fail
 rw[← hw3, ←hr]
 clear hw3 hr m0 m1 m2 m3 m4 m5 m6 m7
 refine HC1.out.mono ?_
 rintro e w' ⟨rfl,hw'⟩
 have hw2':=hw'.symm
 subst hw2'
 clear HC1
 go_wp2_with fail
 refine HC2.out.mono ?_
 rintro e w4 ⟨rfl,hb4⟩
 have HP4:=hide (below_at hb4 HP3.out)
 have hN4:=below_at hb4 HN3.out
 have HK4:=hide (HK3.out.trans (Kpb.of (lt_of_block HP3.out) hb4))
 have HR4:=hide (below_at hb4 HR3.out)
 obtain⟨d0,d1,d2,d3,d4,d5,d6,d7⟩:=nv_cells hN4
 simp only[Nat.zero_add]at d0 d1 d2 d3 d4 d5 d6 d7
 have fz:∀o,w4.frozen? ⟨w.heap.size+1,o,none⟩=false:=fun o=>by simp[World.frozen?,hN4]
 have HN4:=hide hN4
 have hrN:Hid (r≠w.heap.size+1):=fun h=>by
  have h1:=HR4.out
  rw[h,HN4.out]at h1
  cases h1
 clear hb4 hN4 HC2 HP3 HN3 HK3 HR3 HK2 HP2 HY1 HY2
 go_wp2
 exact ret_node (N:=w.heap.size+1) (n:=setN r) (W:=nset w4 (w.heap.size+1) (setN r)) rfl rfl (nv_cells (nv_set HN4.out _)) ⟨r,rfl,HL.out,by rw[nset_keep _ hrN.out];exact HR4.out,by rw[nset_keep _ (by omega)];exact HP4.out,HK4.out.nset (by omega) hlt _⟩
end Go.Proofs.YtfnndcbjklppeaaGreatDoor
