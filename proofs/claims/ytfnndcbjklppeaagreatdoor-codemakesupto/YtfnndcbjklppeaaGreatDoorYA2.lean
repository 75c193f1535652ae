import Derived.Test.YtfnndcbjklppeaaGreatDoorUJ2
import Derived.Test.YtfnndcbjklppeaaGreatDoorUR2
import Derived.Deep.RegionHeld
set_option maxHeartbeats 8000000
set_option linter.unusedVariables false
set_option maxRecDepth 100000
open Go.Proofs.Tryz
namespace Go.Proofs.YtfnndcbjklppeaaGreatDoor.Vm
open Go.RowKit
open En (wkO wkV wk_cells)
theorem infoCn:(Tryz.prog.info? 149).map (fun i=>(i.zero,i.size,i.bytes))=some (some (.agg #[.int .i64 0,.int .i64 0,.int .i64 0]),3,24):=by kernel_rfl
theorem mkC(w:World):(Instr.makeSlice 85 (.int .i64 1) (.int .i64 1)).run prog w=.ok (.slice (some ⟨w.heap.size,0,none⟩) 1 1) (w.alloc (cnO 0)):=by
 obtain⟨i,hi,hz,hs,hb⟩:=info_parts infoCn
 have:=run_makeSlice (P:=prog) w 85 149 i _ underlying85 hi hz .i64 .i64 1 1 (by decide) (by decide) (by rw[hs];decide) (by rw[hb];decide) (by decide)
 have hc:madeCells (Value.agg #[Value.int .i64 0,Value.int .i64 0,Value.int .i64 0]).cells (Int.toNat 1*3)=#[Value.int .i64 0,Value.int .i64 0,Value.int .i64 0]:=by kernel_rfl
 rw[this,hs,hc]
 rfl
def NewE(px sx:Addr)(pc sc:Nat)(oa:Option Addr)(oc:Nat)(w:World)(e:Ending)(w':World):Prop:=∃E:ME,e=.returned (.pointer (some ⟨E.M,0,none⟩))∧E.B=w.heap.size∧E.px=px∧E.pc=pc∧E.sx=sx∧E.sc=sc∧E.oa=oa∧E.oc=oc∧MX w' E ⟨0,0,0,[],[]⟩ (.slice none 0 0) (.slice none 0 0)∧Below w.heap.size w w'
theorem new_any(px sx:Addr)(pc sc:Nat)(oa:Option Addr)(oc:Nat)(w:World):Calls prog 32 #[prV oa 8 oc 0 1,wkV (.slice (some px) 3 pc) 0 0 (.slice (some sx) 4 sc)] w fun e w'=>NewE px sx pc sc oa oc w e w':=by
 obtain⟨W,hW⟩:=named ((w.alloc (prO oa 8 oc 0 1)).alloc (wkO (.slice (some px) 3 pc) 0 0 (.slice (some sx) 4 sc)))
 have hbW:Below w.heap.size w W:=by rw[hW];exact two_below _ _ _
 obtain⟨N,hN⟩:=named w.heap.size
 have hx1:W.heap[N]? =some (prO oa 8 oc 0 1):=by rw[hW,hN];exact at_old (at_new _ _)
 have hx2:W.heap[N+1]? =some (wkO (.slice (some px) 3 pc) 0 0 (.slice (some sx) 4 sc)):=by rw[hW,hN];exact at_new' _ _ (by simp)
 have HBW:=hide hbW
 have HNl:Hid (N=w.heap.size):=hN
 have HNW:Hid (N+1<W.heap.size):=lt_of_block hx2
 have HS:Hid (Below W.heap.size W W.drew):=drew1 W
 have HCl:Hid (∀w':World,Below W.heap.size W w'→(w'.cell? ⟨N,0,none⟩=some (.slice oa 8 oc)∧w'.cell? ⟨N,1,none⟩=some (.int .i64 0)∧w'.cell? ⟨N,2,none⟩=some (.int .i64 1))∧(w'.cell? ⟨N+1,0,none⟩=some (.slice (some px) 3 pc)∧w'.cell? ⟨N+1,1,none⟩=some (.int .i64 0)∧w'.cell? ⟨N+1,2,none⟩=some (.int .i64 0)∧w'.cell? ⟨N+1,3,none⟩=some (.slice (some sx) 4 sc)∧w'.cell? ⟨N+1,4,none⟩=some (.slice none 0 0))):=fun w' h=>⟨pr_cells (below_at h hx1),wk_cells (below_at h hx2)⟩
 have HG:=hide (fun X=>En.noGroups0 X)
 have HEnd:Hid (∀(X:World) (cb:Nat) (ga:Option Addr) (gc:Nat),Below W.heap.size W X→W.heap.size≤cb→X.heap[cb]? =some (cnO 0)→NewE px sx pc sc oa oc w (.returned (.pointer (some ⟨X.heap.size,0,none⟩))) (X.alloc (mcO ⟨w.heap.size,X.heap.size,cb,px,pc,sx,sc,oa,oc,ga,gc⟩ ⟨0,0,0,[],[]⟩ (.slice none 0 0) (.slice none 0 0)))):=fun X cb ga gc hX hcb hc=>by
  have hba:Below X.heap.size X (X.alloc (mcO ⟨w.heap.size,X.heap.size,cb,px,pc,sx,sc,oa,oc,ga,gc⟩ ⟨0,0,0,[],[]⟩ (.slice none 0 0) (.slice none 0 0))):=allocB _ _
  have hs:=hX.size
  have hs2:=hbW.size
  refine⟨⟨w.heap.size,X.heap.size,cb,px,pc,sx,sc,oa,oc,ga,gc⟩,rfl,rfl,rfl,rfl,rfl,rfl,rfl,rfl,⟨at_new _ _,below_at hba hc,World.ownsRow_nil _ _ _ _,World.ownsRow_nil _ _ _ _,?_,?_⟩,?_⟩
  ·show w.heap.size≤X.heap.size;omega
  ·show w.heap.size≤cb;omega
  ·exact hbW.trans ((hX.mono hs2).trans (hba.mono (by omega)))
 simp only[prO,wkO]at hW
 clear hbW hx1 hx2
 go_enter func32,ntmps32
 go_upto_region 1 with fail
 rw[← hW, ←hN]
 clear hW hN
 refine wp_region_held (S:=fun w'=>Below W.heap.size W w') (by kernel_rfl) ?_
 change wpAnyH _ _ _ _ _ _ _ _ (World.drew _)
 refine takeH 0 (.agg #[.slice (some px) 3 pc,.int .i64 0,.int .i64 0,.slice (some sx) 4 sc,.slice none 0 0]) rfl (fun _ _ _ h=>h) HS.out (fun w' hS=>?_) ?_
 ·(obtain⟨⟨y0,y1,y2⟩,z0,z1,z2,z3,z4⟩:=HCl.out w' hS;go_simp)
 refine takeH 1 (.agg #[.slice oa 8 oc,.int .i64 0,.int .i64 1]) rfl (fun _ _ _ h=>h) HS.out (fun w' hS=>?_) ?_
 ·(obtain⟨⟨y0,y1,y2⟩,z0,z1,z2,z3,z4⟩:=HCl.out w' hS;go_simp)
 refine takeH 2 (.pointer (some ⟨N,1,none⟩)) rfl (fun _ _ _ h=>h) HS.out (fun w' hS=>?_) ?_
 ·go_simp
 refine takeH 3 (.int .i64 0) rfl (fun _ _ _ h=>h) HS.out (fun w' hS=>?_) ?_
 ·(obtain⟨⟨y0,y1,y2⟩,z0,z1,z2,z3,z4⟩:=HCl.out w' hS;go_simp)
 refine takeH 6 (.pointer (some ⟨N,2,none⟩)) rfl (fun _ _ _ h=>h) HS.out (fun w' hS=>?_) ?_
 ·go_simp
 refine takeH 7 (.int .i64 1) rfl (fun _ _ _ h=>h) HS.out (fun w' hS=>?_) ?_
 ·(obtain⟨⟨y0,y1,y2⟩,z0,z1,z2,z3,z4⟩:=HCl.out w' hS;go_simp)
 refine wpAnyH_ready (rs:=[4,8]) (by kernel_rfl) (by simp) ?_
 refine AllReadyH.cons rfl (fun K hK=>?_) ?_
 ·skip
  go_simp
  refine(HG.out _).mono ?_
  rintro e w2 ⟨ga,gc,rfl,hb2⟩
  have HS2:=hide (HS.out.andT hb2)
  refine hK.out _ _ HS2.out (fun _=>?_)
  clear hK K
  refine takeH 5 (.agg #[.slice ga 0 gc,.slice none 0 0]) rfl (fun _ _ _ h=>h) HS2.out (fun w' hS=>?_) ?_
  ·go_simp
  refine wpAnyH_ready (rs:=[8]) (by kernel_rfl) (by simp) ?_
  refine AllReadyH.cons rfl (fun K hK=>?_) AllReadyH.nil
  have hmk:=mkC w2
  obtain⟨w3,hw3⟩:=named (w2.alloc (cnO 0))
  have hb3:Below w2.heap.size w2 w3:=by rw[hw3];exact allocB _ _
  have hc3:w3.heap[w2.heap.size]? =some (cnO 0):=by rw[hw3];exact at_new _ _
  have HS3:=hide (HS2.out.andT hb3)
  have HL3:Hid (W.heap.size≤w2.heap.size):=HS2.out.size
  simp only[cnO]at hw3 hmk
  rw[← hw3]at hmk
  clear hw3
  go_simp
  refine hK.out _ _ HS3.out (fun _=>?_)
  clear hK K
  clear hmk
  refine takeH 9 (.agg #[.slice (some ⟨w2.heap.size,0,none⟩) 1 1,.slice none 0 0]) rfl (fun _ _ _ h=>h) HS3.out (fun w' hS=>?_) ?_
  ·go_simp
  refine takeH 10 (.agg #[.slice (some px) 3 pc,.int .i64 0,.int .i64 0,.slice (some sx) 4 sc,.slice none 0 0,.slice oa 8 oc,.int .i64 0,.int .i64 1,.int .i64 0,.slice ga 0 gc,.slice none 0 0,.slice (some ⟨w2.heap.size,0,none⟩) 1 1,.slice none 0 0,.slice none 0 0]) rfl (fun _ _ _ h=>h) HS3.out (fun w' hS=>?_) ?_
  ·go_simp
  refine wpAnyH_ready (rs:=[11]) (by kernel_rfl) (by simp) ?_
  refine AllReadyH.cons rfl (fun K hK=>?_) AllReadyH.nil
  go_simp
  have HE9:=hide (HEnd.out w3 (w2.heap.size) ga gc HS3.out HL3.out hc3)
  have HS9:Hid (Below W.heap.size W (w3.alloc (mcO ⟨w.heap.size,w3.heap.size,w2.heap.size,px,pc,sx,sc,oa,oc,ga,gc⟩ ⟨0,0,0,[],[]⟩ (.slice none 0 0) (.slice none 0 0)))):=HS3.out.alloc HS3.out.size _
  refine hK.out _ _ HS9.out (fun _=>?_)
  clear hK K
  refine takeH 12 (.pointer (some ⟨w3.heap.size,0,none⟩)) rfl (fun _ _ _ h=>h) HS9.out (fun w' hS=>?_) ?_
  ·go_simp
  refine wpAnyH_done (by kernel_rfl) ?_ _
  go_wp2
  go_ret
  exact HE9.out
 ·refine AllReadyH.cons rfl (fun K hK=>?_) AllReadyH.nil
  have hmk:=mkC W.drew
  obtain⟨w2,hw2⟩:=named (W.drew.alloc (cnO 0))
  have hb2:Below W.drew.heap.size W.drew w2:=by rw[hw2];exact allocB _ _
  have hc2:w2.heap[W.drew.heap.size]? =some (cnO 0):=by rw[hw2];exact at_new _ _
  have HS2:=hide (HS.out.andT hb2)
  have HL2:Hid (W.heap.size≤W.drew.heap.size):=HS.out.size
  simp only[cnO]at hw2 hmk
  rw[← hw2]at hmk
  clear hw2
  go_simp
  refine hK.out _ _ HS2.out (fun _=>?_)
  clear hK K
  clear hmk
  refine takeH 9 (.agg #[.slice (some ⟨W.drew.heap.size,0,none⟩) 1 1,.slice none 0 0]) rfl (fun _ _ _ h=>h) HS2.out (fun w' hS=>?_) ?_
  ·go_simp
  refine wpAnyH_ready (rs:=[4]) (by kernel_rfl) (by simp) ?_
  refine AllReadyH.cons rfl (fun K hK=>?_) AllReadyH.nil
  go_simp
  refine(HG.out _).mono ?_
  rintro e w3 ⟨ga,gc,rfl,hb3⟩
  have HS3:=hide (HS2.out.andT hb3)
  refine hK.out _ _ HS3.out (fun _=>?_)
  clear hK K
  refine takeH 5 (.agg #[.slice ga 0 gc,.slice none 0 0]) rfl (fun _ _ _ h=>h) HS3.out (fun w' hS=>?_) ?_
  ·go_simp
  refine takeH 10 (.agg #[.slice (some px) 3 pc,.int .i64 0,.int .i64 0,.slice (some sx) 4 sc,.slice none 0 0,.slice oa 8 oc,.int .i64 0,.int .i64 1,.int .i64 0,.slice ga 0 gc,.slice none 0 0,.slice (some ⟨W.drew.heap.size,0,none⟩) 1 1,.slice none 0 0,.slice none 0 0]) rfl (fun _ _ _ h=>h) HS3.out (fun w' hS=>?_) ?_
  ·go_simp
  refine wpAnyH_ready (rs:=[11]) (by kernel_rfl) (by simp) ?_
  refine AllReadyH.cons rfl (fun K hK=>?_) AllReadyH.nil
  go_simp
  have HE9:=hide (HEnd.out w3 (W.drew.heap.size) ga gc HS3.out HL2.out (below_at hb3 hc2))
  have HS9:Hid (Below W.heap.size W (w3.alloc (mcO ⟨w.heap.size,w3.heap.size,W.drew.heap.size,px,pc,sx,sc,oa,oc,ga,gc⟩ ⟨0,0,0,[],[]⟩ (.slice none 0 0) (.slice none 0 0)))):=HS3.out.alloc HS3.out.size _
  refine hK.out _ _ HS9.out (fun _=>?_)
  clear hK K
  refine takeH 12 (.pointer (some ⟨w3.heap.size,0,none⟩)) rfl (fun _ _ _ h=>h) HS9.out (fun w' hS=>?_) ?_
  ·go_simp
  refine wpAnyH_done (by kernel_rfl) ?_ _
  go_wp2
  go_ret
  exact HE9.out
end Go.Proofs.YtfnndcbjklppeaaGreatDoor.Vm
