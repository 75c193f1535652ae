import Derived.Test.YtfnndcbjklppeaaGreatDoorUR2
import Derived.LoopN
import Derived.Test.YtfnndcbjklppeaaGreatDoorZp
import Derived.Shelf.SlSorted.Search
import Derived.Test.YtfnndcbjklppeaaGreatDoorProg
import Derived.Test.YtfnndcbjklppeaaGreatDoorUA2
import Derived.Test.YtfnndcbjklppeaaGreatDoorUE2
import Derived.Deep.RegionHeld
set_option maxHeartbeats 8000000
set_option linter.unusedVariables false
set_option maxRecDepth 100000
open Go.Proofs.Tryz
namespace Go.Proofs.YtfnndcbjklppeaaGreatDoor.Vm
open Go.RowKit
variable {w w' : World} {E : ME} {s s' : XS} {cv bv : Value}
theorem put_any(h:MX w E s cv bv)(v:Int)(hl:s.ch.length≤1000):Calls prog 136 #[.pointer (some ⟨E.M,11,none⟩),.int .i64 0,.agg #[.int .i64 v,.int .i64 0,.int .i64 0]] w fun e w'=>e=.returned (.tuple #[])∧(∃cv',MX w' E { s with ch:=s.ch++[s.num],num:=v } cv' bv)∧FX E w w':=by
 have hlt0:=h.lt
 obtain⟨W,hW⟩:=named (w.alloc (cnO v))
 have hbW:Below w.heap.size w W:=by rw[hW];exact allocB _ _
 have hvb:W.heap[w.heap.size]? =some (cnO v):=by rw[hW];exact at_new _ _
 obtain⟨vb,hvbe⟩:=named w.heap.size
 rw[← hvbe]at hvb
 have h1:=h.keep hbW
 have hlt:=h1.lt
 have hvM:vb≠E.M:=by omega
 have hvC:vb≠E.cb:=by have:=lt_of_block h.cnt;omega
 have HFW:=hide (FX.of hbW h.ltB)
 obtain⟨so,sc,w6,hap,hmb,hm,hst⟩:=h1.drew.appC hl
 obtain⟨co,cc,rfl⟩:=own_shape h.ch
 obtain⟨n,hn⟩:=named s.ch.length
 obtain⟨n1,hn1⟩:=named (s.ch.length+1)
 rw[← hn1]at hap hm hst
 have hcb6:w6.heap[E.cb]? =some (cnO s.num):=by
  have:=hm.cnt
  rw[Below.heap_setCell _ _ _ _ (by show E.cb≠E.M;exact Ne.symm h.ne)]at this
  exact this
 have hbb:w6.heap[E.M]? =some (mcO E s (.slice co s.ch.length cc) bv):=by rw[hmb];exact h1.drew.box
 have k12:w6.cell? ⟨E.M,12,none⟩=some (.slice co n cc):=by rw[hn];simp[World.cell?,hbb]
 have kf:∀o,w6.frozen? ⟨E.M,o,none⟩=false:=by intro o;simp[World.frozen?,hbb]
 have hgk:E.M<w6.heap.size:=lt_of_block hbb
 obtain⟨-, -, -, -, -, -, -, -, -,c12, -⟩:=h1.rd
 simp only[chL]at hap
 rw[← hn]at hap c12
 have ca:∀o,(W.drew.alloc o).cell? ⟨E.M,12,none⟩=some (.slice co n cc):=fun o=>below_cell ((belR _ W.drew).alloc (leR _) o) hlt c12
 have HAP:=hide hap
 have HM:=hide hm
 have HF:=hide ((FX.of (drew1 W) h1.ltB).trans hst)
 have HS:Hid ((∃x,W.drew.heap[E.M]? =some (mcO E s x bv))∧W.drew.heap[E.cb]? =some (cnO s.num)):=⟨⟨_,h1.drew.box⟩,h1.drew.cnt⟩
 have HS6:Hid ((∃x,w6.heap[E.M]? =some (mcO E s x bv))∧w6.heap[E.cb]? =some (cnO s.num)):=⟨⟨_,hbb⟩,hcb6⟩
 have HSa:Hid (∀o,(∃x,(W.drew.alloc o).heap[E.M]? =some (mcO E s x bv))∧(W.drew.alloc o).heap[E.cb]? =some (cnO s.num)):=fun o=>⟨⟨_,below_at ((belR _ W.drew).alloc (leR _) o) h1.drew.box⟩,below_at ((belR _ W.drew).alloc (leR _) o) h1.drew.cnt⟩
 have HSf:Hid ((∃x,(w6.setCell ⟨E.M,12,none⟩ (.slice so n1 sc)).heap[E.M]? =some (mcO E s x bv))∧(w6.setCell ⟨E.M,12,none⟩ (.slice so n1 sc)).heap[E.cb]? =some (cnO s.num)):=⟨⟨_,hm.box⟩,hm.cnt⟩
 have HCl:Hid (∀w':World,((∃x,w'.heap[E.M]? =some (mcO E s x bv))∧w'.heap[E.cb]? =some (cnO s.num))→w'.cell? ⟨E.M,11,none⟩=some (.slice (some ⟨E.cb,0,none⟩) 1 1)∧w'.cell? ⟨E.cb,0,none⟩=some (.int .i64 s.num)∧w'.cell? ⟨E.cb,1,none⟩=some (.int .i64 0)∧w'.cell? ⟨E.cb,2,none⟩=some (.int .i64 0)):=fun w' ⟨⟨x,hv⟩,hc⟩=>by refine⟨?_,?_,?_,?_⟩<;>simp[World.cell?,hv,hc]
 have HVB:=hide hvb
 simp only[cnO]at hW
 clear h h1 hap hm hst hbb hmb hn hn1 hbW hvb hcb6
 go_enter func136,ntmps136
 go_upto_region 1 with fail
 rw[← hW, ←hvbe]
 clear hW hvbe
 refine wp_region_held (S:=fun w'=>(∃x,w'.heap[E.M]? =some (mcO E s x bv))∧w'.heap[E.cb]? =some (cnO s.num)) (by kernel_rfl) ?_
 change wpAnyH _ _ _ _ _ _ _ _ (World.drew _)
 refine takeH 0 (.pointer (some ⟨E.M,11,none⟩)) rfl (fun _ _ _ h=>h) HS.out (fun w' hS=>?_) ?_
 ·go_simp
 refine takeH 1 (.pointer (some ⟨E.M,11,none⟩)) rfl (fun _ _ _ h=>h) HS.out (fun w' hS=>?_) ?_
 ·go_simp
 refine takeH 2 (.pointer (some ⟨E.M,11,none⟩)) rfl (fun _ _ _ h=>h) HS.out (fun w' hS=>?_) ?_
 ·go_simp
 refine takeH 3 (.pointer (some ⟨E.M,12,none⟩)) rfl (fun _ _ _ h=>h) HS.out (fun w' hS=>?_) ?_
 ·go_simp
 refine takeH 5 (.int .i64 0) rfl (fun _ _ _ h=>h) HS.out (fun w' hS=>?_) ?_
 ·go_simp
 refine takeH 6 (.pointer (some ⟨E.M,11,none⟩)) rfl (fun _ _ _ h=>h) HS.out (fun w' hS=>?_) ?_
 ·go_simp
 refine takeH 7 (.pointer (some ⟨E.M,11,none⟩)) rfl (fun _ _ _ h=>h) HS.out (fun w' hS=>?_) ?_
 ·go_simp
 refine takeH 8 (.pointer (some ⟨E.M,11,none⟩)) rfl (fun _ _ _ h=>h) HS.out (fun w' hS=>?_) ?_
 ·go_simp
 refine takeH 9 (.slice (some ⟨E.cb,0,none⟩) 1 1) rfl (fun _ _ _ h=>h) HS.out (fun w' hS=>?_) ?_
 ·(obtain⟨y11,z0,z1,z2⟩:=HCl.out w' hS;go_simp)
 refine takeH 10 (.int .i64 0) rfl (fun _ _ _ h=>h) HS.out (fun w' hS=>?_) ?_
 ·go_simp
 refine takeH 11 (.pointer (some ⟨E.cb,0,none⟩)) rfl (fun _ _ _ h=>h) HS.out (fun w' hS=>?_) ?_
 ·go_simp
 refine takeH 12 (.agg #[.int .i64 s.num,.int .i64 0,.int .i64 0]) rfl (fun _ _ _ h=>h) HS.out (fun w' hS=>?_) ?_
 ·(obtain⟨y11,z0,z1,z2⟩:=HCl.out w' hS;go_simp)
 refine takeH 13 (.agg #[.int .i64 0,.int .i64 s.num,.int .i64 0,.int .i64 0]) rfl (fun _ _ _ h=>h) HS.out (fun w' hS=>?_) ?_
 ·go_simp
 refine wpAnyH_ready (rs:=[4,14]) (by kernel_rfl) (by simp) ?_
 refine AllReadyH.cons rfl (fun K hK=>?_) (AllReadyH.cons rfl (fun K hK=>?_) AllReadyH.nil)
 ·go_simp
  refine hK.out _ _ HS.out (fun _=>?_)
  clear hK K
  refine wpAnyH_ready (rs:=[14]) (by kernel_rfl) (by simp) ?_
  refine AllReadyH.cons rfl (fun K hK=>?_) AllReadyH.nil
  go_simp
  refine hK.out _ _ (HSa.out _) (fun _=>?_)
  clear hK K
  refine wpAnyH_ready (rs:=[15]) (by kernel_rfl) (by simp) ?_
  refine AllReadyH.cons rfl (fun K hK=>?_) AllReadyH.nil
  refine step_run rfl _ _ _ rfl _ _ (.slice so n1 sc) w6 (by rfl) (by rfl) HAP.out ?_
  refine hK.out _ _ HS6.out (fun _=>?_)
  clear hK K
  refine takeH 16 (.pointer (some ⟨E.M,11,none⟩)) rfl (fun _ _ _ h=>h) HS6.out (fun w' hS=>?_) ?_
  ·go_simp
  refine takeH 17 (.pointer (some ⟨E.M,12,none⟩)) rfl (fun _ _ _ h=>h) HS6.out (fun w' hS=>?_) ?_
  ·go_simp
  refine wpAnyH_ready (rs:=[18]) (by kernel_rfl) (by simp) ?_
  refine AllReadyH.cons rfl (fun K hK=>?_) AllReadyH.nil
  go_simp
  refine hK.out _ _ HSf.out (fun _=>?_)
  clear hK K
  refine wpAnyH_done (by kernel_rfl) ?_ _
  obtain⟨w7,hw7⟩:=named (w6.setCell ⟨E.M,12,none⟩ (.slice so n1 sc))
  have HM7:=hide HM.out
  have HF7:=hide HF.out
  rw[← hw7]at HM7 HF7 ⊢
  have hV7:=HF7.out.oth _ _ _ _ HVB.out hvM hvC (by decide) (by decide)
  have v0:w7.cell? ⟨vb,0,none⟩=some (.int .i64 v):=by simp[World.cell?,hV7]
  have v1:w7.cell? ⟨vb,1,none⟩=some (.int .i64 0):=by simp[World.cell?,hV7]
  have v2:w7.cell? ⟨vb,2,none⟩=some (.int .i64 0):=by simp[World.cell?,hV7]
  obtain⟨-, -, -, -, -, -, -, -,c11, -, -⟩:=HM7.out.rd
  obtain⟨z0,z1,z2⟩:=HM7.out.cr
  have zf:=HM7.out.cf
  have hltc:=lt_of_block HM7.out.cnt
  obtain⟨hm8,hf8⟩:=HM7.out.num v
  have HM8:=hide hm8
  have HF8:=hide (HFW.out.trans (HF7.out.trans hf8))
  clear hm8 hf8 hw7 HAP HM HF hV7 k12 kf c12 ca
  go_upto_region 2 with fail
  go_region
  go_wp2
  go_end0
  have dM:∀X:World,MX X E { s with ch:=s.ch++[s.num],num:=v } (.slice so n1 sc) bv→MX X.drew E { s with ch:=s.ch++[s.num],num:=v } (.slice so n1 sc) bv:=fun X h=>h.drew
  have dF:∀X:World,FX E w X→FX E w X.drew:=fun X h=>⟨⟨h.low.1,h.low.2,h.low.3,h.low.4,h.low.5⟩,h.oth⟩
  exact⟨rfl,⟨_,dM _ HM8.out⟩,dF _ HF8.out⟩
 ·go_simp
  refine hK.out _ _ (HSa.out _) (fun _=>?_)
  clear hK K
  refine wpAnyH_ready (rs:=[4]) (by kernel_rfl) (by simp) ?_
  refine AllReadyH.cons rfl (fun K hK=>?_) AllReadyH.nil
  go_simp
  refine hK.out _ _ (HSa.out _) (fun _=>?_)
  clear hK K
  refine wpAnyH_ready (rs:=[15]) (by kernel_rfl) (by simp) ?_
  refine AllReadyH.cons rfl (fun K hK=>?_) AllReadyH.nil
  refine step_run rfl _ _ _ rfl _ _ (.slice so n1 sc) w6 (by rfl) (by rfl) HAP.out ?_
  refine hK.out _ _ HS6.out (fun _=>?_)
  clear hK K
  refine takeH 16 (.pointer (some ⟨E.M,11,none⟩)) rfl (fun _ _ _ h=>h) HS6.out (fun w' hS=>?_) ?_
  ·go_simp
  refine takeH 17 (.pointer (some ⟨E.M,12,none⟩)) rfl (fun _ _ _ h=>h) HS6.out (fun w' hS=>?_) ?_
  ·go_simp
  refine wpAnyH_ready (rs:=[18]) (by kernel_rfl) (by simp) ?_
  refine AllReadyH.cons rfl (fun K hK=>?_) AllReadyH.nil
  go_simp
  refine hK.out _ _ HSf.out (fun _=>?_)
  clear hK K
  refine wpAnyH_done (by kernel_rfl) ?_ _
  obtain⟨w7,hw7⟩:=named (w6.setCell ⟨E.M,12,none⟩ (.slice so n1 sc))
  have HM7:=hide HM.out
  have HF7:=hide HF.out
  rw[← hw7]at HM7 HF7 ⊢
  have hV7:=HF7.out.oth _ _ _ _ HVB.out hvM hvC (by decide) (by decide)
  have v0:w7.cell? ⟨vb,0,none⟩=some (.int .i64 v):=by simp[World.cell?,hV7]
  have v1:w7.cell? ⟨vb,1,none⟩=some (.int .i64 0):=by simp[World.cell?,hV7]
  have v2:w7.cell? ⟨vb,2,none⟩=some (.int .i64 0):=by simp[World.cell?,hV7]
  obtain⟨-, -, -, -, -, -, -, -,c11, -, -⟩:=HM7.out.rd
  obtain⟨z0,z1,z2⟩:=HM7.out.cr
  have zf:=HM7.out.cf
  have hltc:=lt_of_block HM7.out.cnt
  obtain⟨hm8,hf8⟩:=HM7.out.num v
  have HM8:=hide hm8
  have HF8:=hide (HFW.out.trans (HF7.out.trans hf8))
  clear hm8 hf8 hw7 HAP HM HF hV7 k12 kf c12 ca
  go_upto_region 2 with fail
  go_region
  go_wp2
  go_end0
  have dM:∀X:World,MX X E { s with ch:=s.ch++[s.num],num:=v } (.slice so n1 sc) bv→MX X.drew E { s with ch:=s.ch++[s.num],num:=v } (.slice so n1 sc) bv:=fun X h=>h.drew
  have dF:∀X:World,FX E w X→FX E w X.drew:=fun X h=>⟨⟨h.low.1,h.low.2,h.low.3,h.low.4,h.low.5⟩,h.oth⟩
  exact⟨rfl,⟨_,dM _ HM8.out⟩,dF _ HF8.out⟩
variable {w w' : World} {E : ME} {s s' : XS} {cv bv : Value}
theorem own_prefix{B e k n:Nat}{g cap:Nat}{xs ys:List Value}(h:w.ownsRow B e k (.slice (some ⟨g,0,none⟩) (n+1) cap) (n+1) (xs++ys))(hx:xs.length=n*k):w.ownsRow B e k (.slice (some ⟨g,0,none⟩) n cap) n xs:=by
 obtain⟨h1,h2⟩:=h
 rcases h2 with⟨h0,_⟩|⟨g',cap',cur,hv,hB,hh,hn,hm,hs,ht⟩
 ·cases h0
 ·cases hv
  refine⟨hx,.inr ⟨g,cap,cur,rfl,hB,hh,by omega,hm,hs,?_⟩⟩
  have e:List.take (n*k) (cur.toList.take ((n+1)*k))=List.take (n*k) (xs++ys):=by rw[ht]
  rw[List.take_take,Nat.min_eq_left (Nat.mul_le_mul_right k (Nat.le_succ n))]at e
  rw[e, ←hx,List.take_left']
  rfl
theorem undo0(h:MX w E s cv bv):Calls prog 96 #[.pointer (some ⟨E.M,9,none⟩),.int .i64 0] w fun e w'=>e=.returned (.tuple #[])∧w'=w.setCell ⟨E.M,10,none⟩ (.slice none 0 0):=by
 obtain⟨c0,c1,c2,c3,c5,c8,c9,c10,c11,c12,c13⟩:=h.rd
 have fz:=h.fr
 have hlt:=h.lt
 clear h
 go_enter func96,ntmps96
 go_wp2
 refine wp_loop_rounds 1 ?_
 rw[rounds_succ]
 go_wp2
 go_end0
 exact⟨rfl,rfl⟩
theorem undoN(h:MX w E s cv bv)(co:Addr)(n cc:Nat)(hcv:cv=.slice (some co) n cc)(hn:0<n∧n≤1000∧n≤cc):Calls prog 97 #[.pointer (some ⟨E.M,11,none⟩),.int .i64 (n:Int)] w fun e w'=>e=.returned (.tuple #[])∧w'=w.setCell ⟨E.M,12,none⟩ (.slice (some co) n cc):=by
 obtain⟨c0,c1,c2,c3,c5,c8,c9,c10,c11,c12,c13⟩:=h.rd
 rw[hcv]at c12
 have fz:=h.fr
 have hlt:=h.lt
 have e1:IntKind.i64.wrap ((n:Int) - 1)=(n:Int) - 1:=by rw[IntKind.wrap_i64];omega
 have e2:¬(n:Int)≤(n:Int) - 1:=by omega
 clear h hcv
 go_enter func97,ntmps97
 go_wp2
 refine wp_loop_rounds 1 ?_
 rw[rounds_succ]
 go_wp2
 go_end0
 exact⟨rfl,rfl⟩
theorem rowBk_len:∀l:List (Int×Int×Int),(rowBk l).length=l.length*4
 |[]=>rfl
 |x::xs=>by
  have:=rowBk_len xs
  rw[rowBk]at this
  rw[rowBk,List.flatMap_cons,List.length_append,this,List.length_cons]
  simp[bkL];omega
variable {w w' : World} {E : ME} {s s' : XS} {cv bv : Value}
theorem rowBk_get(l:List (Int×Int×Int))(x:Int×Int×Int)(i:Nat)(hi:i<4):(rowBk (l++[x]))[l.length*4+i]? =(bkL x)[i]? :=by
 rw[show rowBk (l++[x])=rowBk l++bkL x from by simp[rowBk],List.getElem?_append_right (by rw[rowBk_len];omega),rowBk_len]
 congr 1
 omega
theorem MX.cutB(h:MX w E s cv bv)(bs:List (Int×Int×Int))(x:Int×Int×Int)(hb:s.bk=bs++[x])(b cap:Nat)(hbv:bv=.slice (some ⟨b,0,none⟩) (bs.length+1) cap):MX (w.setCell ⟨E.M,13,none⟩ (.slice (some ⟨b,0,none⟩) bs.length cap)) E { s with bk:=bs } cv (.slice (some ⟨b,0,none⟩) bs.length cap):=by
 have key:∀{k:Nat} {o:Obj},k≠E.M→w.heap[k]? =some o→(w.setCell ⟨E.M,13,none⟩ (.slice (some ⟨b,0,none⟩) bs.length cap)).heap[k]? =some o:=fun {k o} hk ho=>by rw[Below.heap_setCell _ _ _ _ (by simpa using hk)];exact ho
 have nm:∀{k:Nat} {cs:Array Value} {e:TypeId} {fr:Nat×Nat},e≠91→w.heap[k]? =some (.cells cs e fr)→k≠E.M:=fun {k cs e fr} he hk ek=>by
  rw[ek,h.box]at hk
  cases hk
  exact he rfl
 have ho:=h.bk
 rw[hbv,hb]at ho
 rw[show (bs++[x]).length=bs.length+1 from by simp,show rowBk (bs++[x])=rowBk bs++bkL x from by simp[rowBk]]at ho
 refine⟨?_,key (Ne.symm h.ne) h.cnt,own_oth h.ch fun k cs hk=>key (nm (by decide) hk) hk,own_oth (own_prefix ho (rowBk_len bs)) fun k cs hk=>key (nm (by decide) hk) hk,h.lm,h.lc⟩
 rw[set_oneQ h.box]
 rfl
theorem goBack_any(h:MX w E s cv bv)(bs:List (Int×Int×Int))(nx p:Int)(hb:s.bk=bs++[(nx,p,(s.ch.length:Int))])(hch:0<s.ch.length∧s.ch.length≤1000)(hbl:bs.length≤1000):Calls prog 58 #[.pointer (some ⟨E.M,0,none⟩)] w fun e w'=>e=.returned (.bool true)∧(∃bv',MX w' E { s with next:=nx,pos:=p,bk:=bs } cv bv')∧FX E w w':=by
 obtain⟨co,cc,hcv⟩:=own_some h.ch hch.1
 obtain⟨b,cap,hbv⟩:=own_some h.bk (by rw[hb];simp)
 rw[hb,show(bs++[(nx,p,(s.ch.length:Int))]).length=bs.length+1 from by simp]at hbv
 have hcap:bs.length+1≤cap∧cap≤9223372036854775807:=by
  rcases h.bk.2 with⟨e,_⟩|⟨g',cap',cur,hv,_,_,hn,hm,_⟩
  ·rw[hbv]at e;cases e
  ·rw[hbv]at hv;injection hv with e1 e2 e3;unfold maxLen at hm;omega
 have hccp:s.ch.length≤cc:=by
  rcases h.ch.2 with⟨e,_⟩|⟨g',cap',cur,hv,_,_,hn,hm,_⟩
  ·rw[hcv]at e;cases e
  ·rw[hcv]at hv;cases hv;exact hn
 obtain⟨n,hn⟩:=named s.ch.length
 obtain⟨m,hm⟩:=named bs.length
 have hcell:∀i,i<4→w.cell? ⟨b,m*4+i,none⟩=(bkL (nx,p,(n:Int)))[i]? :=fun i hi=>by
  have ho:=h.bk
  rw[hbv,hb,show(bs++[(nx,p,(s.ch.length:Int))]).length=bs.length+1 from by simp]at ho
  rw[hm,World.ownsRow.cellAt ho (bs.length*4+i) (by omega),rowBk_get _ _ i hi,hn]
 have b0:w.cell? ⟨b,m*4,none⟩=some (.int .i64 nx):=hcell 0 (by omega)
 have b1:w.cell? ⟨b,m*4+1,none⟩=some (.int .i64 p):=hcell 1 (by omega)
 have b2:w.cell? ⟨b,m*4+2,none⟩=some (.int .i64 0):=hcell 2 (by omega)
 have b3:w.cell? ⟨b,m*4+3,none⟩=some (.int .i64 (n:Int)):=hcell 3 (by omega)
 obtain⟨W1,hW1⟩:=named (w.alloc (.cells #[.int .i64 nx,.int .i64 p,.int .i64 0,.int .i64 (n:Int)] 152))
 have hB1:Below w.heap.size w W1:=by rw[hW1];exact allocB _ _
 have hx1:W1.heap[w.heap.size]? =some (.cells #[.int .i64 nx,.int .i64 p,.int .i64 0,.int .i64 (n:Int)] 152):=by rw[hW1];exact at_new _ _
 obtain⟨xb,hxb⟩:=named w.heap.size
 rw[← hxb]at hx1
 have hxM:xb≠E.M:=by have:=h.lt;omega
 have h1:=h.keep hB1
 have h2:=h1.cutB bs _ hb b cap hbv
 obtain⟨W2,hW2⟩:=named (W1.setCell ⟨E.M,13,none⟩ (.slice (some ⟨b,0,none⟩) bs.length cap))
 rw[← hW2]at h2
 have kx:∀(X:World) (i:Nat) (v:Value),X.heap[xb]? =some (.cells #[.int .i64 nx,.int .i64 p,.int .i64 0,.int .i64 (n:Int)] 152)→(X.setCell ⟨E.M,i,none⟩ v).heap[xb]? =some (.cells #[.int .i64 nx,.int .i64 p,.int .i64 0,.int .i64 (n:Int)] 152):=fun X i v hX=>by rw[Below.heap_setCell _ _ _ _ (by simpa using hxM)];exact hX
 have hx2:W2.heap[xb]? =some (.cells #[.int .i64 nx,.int .i64 p,.int .i64 0,.int .i64 (n:Int)] 152):=by rw[hW2];exact kx _ _ _ hx1
 have h3a:=h2.put 8 (.int .i64 nx) { s with bk:=bs,next:=nx } rfl rfl rfl rfl
 have h3:=h3a.put 1 (.int .i64 p) { s with bk:=bs,next:=nx,pos:=p } rfl rfl rfl rfl
 obtain⟨W3,hW3⟩:=named (((W2.setCell ⟨E.M,8,none⟩ (.int .i64 nx)).setCell ⟨E.M,1,none⟩ (.int .i64 p)).drew)
 have dM:∀(X:World) (t:XS) (a c:Value),MX X E t a c→MX X.drew E t a c:=fun X t a c h=>h.drew
 have dh:∀X:World,X.drew.heap=X.heap:=fun _=>rfl
 have dF:∀(Y X:World),FX E Y X→FX E Y X.drew:=fun Y X h=>⟨⟨h.low.1,h.low.2,h.low.3,h.low.4,h.low.5⟩,h.oth⟩
 have h4:MX W3 E { s with bk:=bs,next:=nx,pos:=p } cv (.slice (some ⟨b,0,none⟩) bs.length cap):=by rw[hW3];exact dM _ _ _ _ h3
 have hx3:W3.heap[xb]? =some (.cells #[.int .i64 nx,.int .i64 p,.int .i64 0,.int .i64 (n:Int)] 152):=by rw[hW3,dh];exact kx _ _ _ (kx _ _ _ hx2)
 have hF3:FX E w W3:=by
  rw[hW3,hW2]
  exact dF _ _ ((((FX.of hB1 h.ltB).trans (FX.set E W1 h.lm 13 _)).trans (FX.set E _ h.lm 8 _)).trans (FX.set E _ h.lm 1 _))
 -- behind the draw of region 7 and undo0
 have h5:=h4.drew
 have HC1:=hide (undo0 h5)
 obtain⟨W5,hW5⟩:=named (W3.drew.setCell ⟨E.M,10,none⟩ (.slice none 0 0))
 have h6:MX W5 E { s with bk:=bs,next:=nx,pos:=p } cv (.slice (some ⟨b,0,none⟩) bs.length cap):=by rw[hW5];exact h5.put 10 (.slice none 0 0) { s with bk:=bs,next:=nx,pos:=p } rfl rfl rfl rfl
 have hx5:W5.heap[xb]? =some (.cells #[.int .i64 nx,.int .i64 p,.int .i64 0,.int .i64 (n:Int)] 152):=by rw[hW5];exact kx _ _ _ (by rw[dh];exact hx3)
 have hF5:FX E w W5:=by rw[hW5];exact(dF _ _ hF3).trans (FX.set E _ h.lm 10 _)
 have h7:=h6.drew
 have HC2:=hide (undoN h7 ⟨co,0,none⟩ n cc (by rw[hcv,hn]) (by omega))
 rw[← hW5]at HC1
 obtain⟨W7,hW7⟩:=named (W5.drew.setCell ⟨E.M,12,none⟩ (.slice (some ⟨co,0,none⟩) n cc))
 have h8:MX W7 E { s with bk:=bs,next:=nx,pos:=p } cv (.slice (some ⟨b,0,none⟩) bs.length cap):=by
  rw[hW7]
  refine h7.put 12 (.slice (some ⟨co,0,none⟩) n cc) { s with bk:=bs,next:=nx,pos:=p } ?_ rfl rfl rfl
  rw[hcv,hn];rfl
 have hF7:FX E w W7:=by rw[hW7];exact(dF _ _ hF5).trans (FX.set E _ h.lm 12 _)
 rw[← hW7]at HC2
 obtain⟨-, -, -, -, -, -, -, -, -, -,c13⟩:=h.rd
 rw[hbv, ←hm]at c13
 obtain⟨-, -, -, -, -, -, -, -, -, -,a13⟩:=h1.rd
 rw[hbv, ←hm]at a13
 have a13f:=h1.fr
 have hlt1:=h1.lt
 obtain⟨-,e1, -, -, -,e8, -, -, -, -, -⟩:=h2.rd
 have e8f:=h2.fr
 have x0:W2.cell? ⟨xb,0,none⟩=some (.int .i64 nx):=by simp[World.cell?,hx2]
 have x1:W2.cell? ⟨xb,1,none⟩=some (.int .i64 p):=by simp[World.cell?,hx2]
 have u2:W3.cell? ⟨xb,2,none⟩=some (.int .i64 0):=by simp[World.cell?,hx3]
 have v3:W5.cell? ⟨xb,3,none⟩=some (.int .i64 (n:Int)):=by simp[World.cell?,hx5]
 have HM8:=hide h8
 have HF8:=hide hF7
 have HW2:=hide hW2
 have HW3:=hide hW3
 have q1:IntKind.i64.wrap (((m+1:Nat):Int) - 1)=(m:Int):=by rw[IntKind.wrap_i64];omega
 have q2:¬(m:Int)<0:=by omega
 have q3:(0:Int)≤(m:Int):=by omega
 have q4:(m:Int)<((m+1:Nat):Int):=by omega
 have q5:m≤cap:=by omega
 rw[← hm]at HW2
 clear h h1 h2 h3a h3 h4 h5 h6 h7 h8 hF3 hF5 hF7 hx1 hx2 hx3 hx5 hW2 hW3 hW5 hW7 hB1 hcell hb hbv hcv hm hn dM dh dF kx
 go_enter func58,ntmps58
 go_upto_region 5 with fail
 rw[← hW1, ←hxb]
 clear hW1 hxb
 go_upto_region 6 with fail
 rw[← HW2.out]
 clear c13 a13 a13f b0 b1 b2 b3
 go_region
 rw[← HW3.out]
 clear x0 x1 e1 e8 e8f
 go_upto_region 7 with fail
 go_still_tail 5,(by kernel_rfl)
 go_wp2_with fail
 refine HC1.out.mono ?_
 rintro e w8 ⟨rfl,rfl⟩
 clear HC1 u2
 go_upto_region 8 with fail
 go_still_tail 5,(by kernel_rfl)
 go_wp2_with fail
 refine HC2.out.mono ?_
 rintro e w9 ⟨rfl,rfl⟩
 clear HC2 v3
 go_wp2
 go_ret
 exact⟨rfl,⟨_,HM8.out⟩,HF8.out⟩
end Go.Proofs.YtfnndcbjklppeaaGreatDoor.Vm
namespace Go.Proofs
open Go.Shelf
def Tryz.search_ren:Go.Shelf.Ren:=⟨fun|16=>178|n=>n,fun|3=>3|4=>4|35=>56|38=>142|n=>n,fun|n=>n⟩
theorem Tryz.search:Go.Proofs.SlLaysO.n16 prog Tryz.search_ren:={
 mixed:=by kernel_rfl
 f16:=func178.trans (congrArg some (by kernel_rfl))
 t3:=underlying3
 a3:=isAgg3
 z3:=sizeOf3
 v3:=zeroValue3
 t4:=underlying4
 a4:=isAgg4
 z4:=sizeOf4
 v4:=zeroValue4
 t35:=underlying56
 a35:=isAgg56
 z35:=sizeOf56
 v35:=zeroValue56
 t38:=underlying142
 a38:=isAgg142
 z38:=sizeOf142
 v38:=zeroValue142 }
end Go.Proofs
namespace Go.Proofs.YtfnndcbjklppeaaGreatDoor
open Go.RowKit Go.Sort Go.Lib Go.Shelf
theorem stretch1_any(x b1 b2:Addr)(c:Nat)(L:RL)(p:Int)(i:Nat)(W:World)(hi:i<L.length)(hl:L.length≤2000)(h1:W.cell? b1=some (.slice (some x) L.length c))(h2:W.cell? b2=some (.int .i64 p))(hc:Cells2 W x L):
  Calls prog 179 #[.int .i64 i,.pointer (some b1),.pointer (some b2)] W fun e w'=>e=.returned (.bool (decide (p≤L[i].2)))∧∃q,w'=W.drewN q:=by
 obtain⟨c1,c2⟩:=hc i hi
 obtain⟨b,hb⟩:=named (L[i].2)
 rw[← hb]at c2 ⊢
 obtain⟨n,hn⟩:=named L.length
 rw[← hn]at hi hl h1
 have e1:(i:Int)<(n:Int):=by omega
 have e0:(0:Int)≤(i:Int):=by omega
 clear hc hb hn c1
 go_enter func179,ntmps179
 go_wp2
 go_quiet (fail)
 go_wp2
 go_ret
 exact⟨rfl,_,rfl⟩
theorem enters179(args:Array Value)(w:World):(callFunc 179 args).run prog w=.ok (.enter 179 args) w:=enters_of func179 (by kernel_rfl) rfl args w
theorem count_range(L:RL)(p:Int):(List.range L.length).countP (fun i=>!decide (p≤(L.getD i (0,0)).2))=L.countP (fun r=>decide (r.2<p)):=by
 have h:L=(List.range L.length).map (fun i=>L.getD i (0,0)):=by
  apply List.ext_getElem
  ·simp
  ·intro i h1 h2
   simp[List.getD,h1]
 conv=>rhs;rw[h,List.countP_map]
 apply List.countP_congr
 intro i _
 simp[Function.comp]
theorem reads_one{w:World}(v:Value)(t:Nat):(w.alloc (.cells #[v] t)).cell? ⟨w.heap.size,0,none⟩=some v:=World.cell?_alloc_at _ _ _ _ rfl
theorem below_grow(w:World)(q:Nat)(os:Array Obj):Below w.heap.size w (grow (w.drewN q) os):=below_grown_sl _ w q os (leR _)
theorem below_two(w:World)(o o':Obj):Below w.heap.size w ((w.alloc o).alloc o'):=((belR _ w).alloc (leR _) o).alloc (by simp) o'
theorem below_both(w w2:World)(o o':Obj)(h:Below ((w.alloc o).alloc o').heap.size ((w.alloc o).alloc o') w2):Below w.heap.size w w2:=(below_two w o o').trans (h.mono (by simp;omega))
theorem stretch_any(v:Value)(L:RL)(p:Int)(w:World)(hv:Reads w v L)(hC:Canon L)(hl:L.length≤2000):
  Calls prog 165 #[v,.int .i64 p] w fun e w'=>e=.returned (.tuple #[.bool (stretchL L p).1,.int .i64 (stretchL L p).2])∧Below w.heap.size w w':=by
 obtain⟨k,hk⟩:=named (L.countP (fun r=>decide (r.2<p)))
 obtain⟨s1,s2⟩:=stretch_at L p k hk hC
 have hkl:k≤L.length:=by rw[hk];exact List.countP_le_length
 rcases hv with⟨rfl,rfl⟩|⟨x,c,rfl,hc⟩
 ·have S:=hide (Any.sort_Search Tryz.search 179 #[.pointer (some ⟨w.heap.size,0,none⟩),.pointer (some ⟨w.heap.size+1,0,none⟩)] 0 (fun _=>false) ((w.alloc (.cells #[.slice none 0 0] 29)).alloc (.cells #[.int .i64 p] 3)) enters179 (by decide) (fun m os i hi=>by omega) (fun a b _ h=>by omega))
  change Hid (Calls prog 178 _ _ _)at S
  clear s1 s2 hk hkl hC
  go_enter func165,ntmps165
  go_wp2_with fail
  refine S.out.mono ?_
  rintro e w2 ⟨rfl,q,os,hw2⟩
  have hb:=below_grow ((w.alloc (.cells #[.slice none 0 0] 29)).alloc (.cells #[.int .i64 p] 3)) q os
  rw[← hw2]at hb
  have d1:w2.cell? ⟨w.heap.size,0,none⟩=some (.slice none 0 0):=below_cell hb (by simp;omega) (cell_alloc_sl _ (reads_one _ _))
  clear hw2 S
  go_wp2
  go_ret2
  exact⟨rfl,below_both _ _ _ _ hb⟩
 ·obtain ⟨n,hn⟩:=named L.length
  have S:=hide (Any.sort_Search Tryz.search 179 #[.pointer (some ⟨w.heap.size,0,none⟩),.pointer (some ⟨w.heap.size+1,0,none⟩)] L.length (fun i=>decide (p≤(L.getD i (0,0)).2)) ((w.alloc (.cells #[.slice (some x) L.length c] 29)).alloc (.cells #[.int .i64 p] 3)) enters179 (by omega) (fun m os i hi=>by
   have hb:=below_grow ((w.alloc (.cells #[.slice (some x) L.length c] 29)).alloc (.cells #[.int .i64 p] 3)) m os
   have h:=stretch1_any x ⟨w.heap.size,0,none⟩ ⟨w.heap.size+1,0,none⟩ c L p i (grow (((w.alloc (.cells #[.slice (some x) L.length c] 29)).alloc (.cells #[.int .i64 p] 3)).drewN m) os) hi hl (below_cell hb (by simp;omega) (cell_alloc_sl _ (reads_one _ _))) (below_cell hb (by simp) (by have:=reads_one (w:=w.alloc (.cells #[.slice (some x) L.length c] 29)) (.int .i64 p) 3;simp)) ((hc.below (below_two w _ _)).below hb)
   refine h.mono ?_
   rintro e w' ⟨rfl,q,rfl⟩
   refine⟨by simp[List.getD,hi],q,#[],by rw[grow_empty]⟩) (fun a b hab hbn h=>by
   simp only[decide_eq_true_eq]at h ⊢
   by_cases hab':a=b
   ·subst hab';exact h
   ·have hp:=hC.2
    rw[List.pairwise_iff_getElem]at hp
    have h1:=hp a b (by omega) hbn (by omega)
    have h2:=hC.1 L[b] (List.getElem_mem _)
    unfold okR at h2
    simp only[List.getD,List.getElem?_eq_getElem hbn,List.getElem?_eq_getElem (show a<L.length by omega),Option.getD_some]at h ⊢
    omega))
  change Hid (Calls prog 178 _ _ _)at S
  rw[count_range, ←hk, ←hn]at S
  rw[← hn]at hkl hl s1 ⊢
  have HC:=hide hc
  have HN:=hide hn
  by_cases hkn:k=n
  ·have E:=hide (s1 hkn)
   rw[E.out]
   clear s1 s2 hk hc hn hC
   subst hkn
   go_enter func165,ntmps165
   go_wp2_with fail
   refine S.out.mono ?_
   rintro e w2 ⟨rfl,q,os,hw2⟩
   have hb:=below_grow ((w.alloc (.cells #[.slice (some x) k c] 29)).alloc (.cells #[.int .i64 p] 3)) q os
   rw[← hw2]at hb
   have d1:w2.cell? ⟨w.heap.size,0,none⟩=some (.slice (some x) k c):=below_cell hb (by simp;omega) (cell_alloc_sl _ (reads_one _ _))
   clear hw2 S
   go_wp2
   go_ret2
   exact⟨rfl,below_both _ _ _ _ hb⟩
  ·have hkL:k<L.length:=by omega
   have E:=hide (s2 hkL)
   have hr:=hC.1 L[k] (List.getElem_mem _)
   unfold okR at hr
   obtain⟨r,hr'⟩:=named (L[k])
   rw[← hr']at hr E
   have HR:=hide hr'
   obtain⟨a,b⟩:=r
   simp only at hr E
   obtain⟨r0,r1,r2⟩:=hr
   have e1:(k:Int)<(n:Int):=by omega
   have e0:(0:Int)≤(k:Int):=by omega
   have e3:((k:Int)==(n:Int))=false:=by simp;omega
   have wa:IntKind.i64.wrap (a - 1)=a - 1:=by rw[IntKind.wrap_i64];omega
   clear s1 s2 hk hn hC hc hr'
   have finish:∀(w2:World),Below ((w.alloc (.cells #[.slice (some x) n c] 29)).alloc (.cells #[.int .i64 p] 3)).heap.size ((w.alloc (.cells #[.slice (some x) n c] 29)).alloc (.cells #[.int .i64 p] 3)) w2→w2.cell? ⟨w.heap.size,0,none⟩=some (.slice (some x) n c)∧w2.cell? ⟨w.heap.size+1,0,none⟩=some (.int .i64 p)∧w2.cell? (x.add (k*2))=some (.int .i64 a)∧w2.cell? ⟨(x.add (k*2)).block,(x.add (k*2)).off+1,none⟩=some (.int .i64 b):=by
    intro w2 hb
    obtain⟨c1,c2⟩:=((HC.out.below (below_two w _ _)).below hb) k hkL
    rw[← HR.out]at c1 c2
    exact⟨below_cell hb (by simp;omega) (cell_alloc_sl _ (reads_one _ _)),below_cell hb (by simp) (by have:=reads_one (w:=w.alloc (.cells #[.slice (some x) n c] 29)) (.int .i64 p) 3;simp),c1,c2⟩
   have FI:=hide finish
   clear finish
   by_cases hpa:p<a
   ·rw [if_pos hpa]at E
    rw[E.out]
    go_enter func165,ntmps165
    go_wp2_with fail
    refine S.out.mono ?_
    rintro e w2 ⟨rfl,q,os,hw2⟩
    have hb:=below_grow ((w.alloc (.cells #[.slice (some x) n c] 29)).alloc (.cells #[.int .i64 p] 3)) q os
    rw[← hw2]at hb
    obtain⟨d1,d2,d3,d4⟩:=FI.out w2 hb
    clear hw2 S
    go_wp2
    go_quiet (fail)
    go_wp2
    go_quiet (fail)
    go_wp2
    go_ret2
    exact⟨rfl,below_drewN (below_drewN (below_both _ _ _ _ hb) _) _⟩
   ·rw [if_neg hpa]at E
    rw[E.out]
    have hd:decide (p<a)=false:=by simpa using hpa
    go_enter func165,ntmps165
    go_wp2_with fail
    refine S.out.mono ?_
    rintro e w2 ⟨rfl,q,os,hw2⟩
    have hb:=below_grow ((w.alloc (.cells #[.slice (some x) n c] 29)).alloc (.cells #[.int .i64 p] 3)) q os
    rw[← hw2]at hb
    obtain⟨d1,d2,d3,d4⟩:=FI.out w2 hb
    clear hw2 S
    go_wp2
    go_quiet (fail)
    go_wp2
    go_quiet (fail)
    go_wp2
    go_ret2
    exact⟨rfl,below_drewN (below_drewN (below_both _ _ _ _ hb) _) _⟩
end Go.Proofs.YtfnndcbjklppeaaGreatDoor
namespace Go.Proofs.YtfnndcbjklppeaaGreatDoor
open Go.RowKit
theorem has_in(v:Value)(L:RL)(p:Int)(w:World)(hv:Reads w v L)(h:checkE L=0)(h0:0≤p)(h1:p≤1114111):Calls prog 131 #[v,.int .i64 p] w fun e w'=>e=.returned (.tuple #[.bool (ins L p),.int .i64 0])∧Below w.heap.size w w':=by
 have HC:=hide (check_any v L w hv)
 have HI:=hide (fun w=>is_any p w)
 rw[show decide (0≤p∧p≤1114111)=true from by simp[h0,h1]]at HI
 rw[h]at HC
 obtain⟨hl,hcan⟩:=checkE_ok.1 h
 have HS:=hide (fun w1 (hb:Below w.heap.size w w1)=>stretch_any v L p w1 (hv.below hb) hcan (by omega))
 rw[stretch_ins hcan h0 h1]at HS
 obtain⟨z,hz⟩:=named (ins L p)
 obtain⟨y,hy⟩:=named ((stretchL L p).2)
 rw[← hz]at HS ⊢
 rw[← hy]at HS
 clear hv hcan h hz hy
 go_enter func131,ntmps131
 go_wp2_with fail
 refine HC.out.mono ?_
 rintro e w1 ⟨rfl,hb1⟩
 go_wp2_with fail
 refine(HI.out w1).mono ?_
 rintro e w2 ⟨rfl,rfl⟩
 go_wp2_with fail
 refine(HS.out w1 hb1).mono ?_
 rintro e w3 ⟨rfl,hb3⟩
 go_wp2
 go_ret2
 exact⟨rfl,hb1.andT hb3⟩
end Go.Proofs.YtfnndcbjklppeaaGreatDoor
namespace Go.Proofs.YtfnndcbjklppeaaGreatDoor.Vm
open Go.RowKit
variable {w w' : World} {E : ME} {s s' : XS} {cv bv : Value}
theorem FX.drew(h:FX E w w'):FX E w w'.drew:=⟨⟨h.low.1,h.low.2,h.low.3,h.low.4,h.low.5⟩,h.oth⟩
theorem take_any(h:MX w E s cv bv)(i:Nat)(hi:i<3)(hpos:s.pos=(i:Int))(p:Int)(hp:0≤p∧p≤1114111)(hpt:∀W,Below E.B w W→W.cell? (E.px.add i)=some (.int .i64 p))(sa:Option Addr)(sl sc:Nat)(S:RL)(hS:∀W,FX E w W→Reads W (.slice sa sl sc) S)(hc:checkE S=0):Calls prog 87 #[.pointer (some ⟨E.M,0,none⟩),.slice sa sl sc] w fun e w'=>e=.returned (.bool (ins S p))∧MX w' E (if ins S p then { s with pos:=((i+1:Nat):Int) } else s) cv bv∧FX E w w':=by
 obtain⟨c0,c1,c2,c3,c5,c8,c9,c10,c11,c12,c13⟩:=h.rd
 rw[hpos]at c1
 have HM2:=hide h.drew.drew
 have HF2:=hide ((FX.refl E w).drew.drew)
 have HC:=hide (has_in (.slice sa sl sc) S p w.drew.drew (hS _ HF2.out) hc hp.1 hp.2)
 have hcp:=hpt w.drew ⟨rfl,rfl,rfl,leR _,fun _ _=>rfl⟩
 have hcp':w.cell? (E.px.add i)=some (.int .i64 p):=hpt w (belR _ _)
 obtain⟨z,hz⟩:=named (ins S p)
 rw[← hz]at HC ⊢
 have bi : ((i : Int) == 3) = false := by have:(i:Int)≠3:=by omega
                                          simpa using this
 have e1:(0:Int)≤(i:Int):=by omega
 have e2:(i:Int)<(3:Int):=by omega
 have ew:IntKind.i64.wrap ((i:Int)+1)=(i:Int)+1:=by rw[IntKind.wrap_i64];omega
 have HPos:=hide hpos
 have HPt:=hide hpt
 have HS:Hid (MX w.drew.drew E s cv bv∧FX E w w.drew.drew):=⟨HM2.out,HF2.out⟩
 have HFB:=hide (fun W (hW:Below w.drew.drew.heap.size w.drew.drew W)=>HM2.out.keep hW)
 have HFF:=hide (fun W (hW:Below w.drew.drew.heap.size w.drew.drew W)=>HF2.out.trans (FX.of hW HM2.out.ltB))
 clear h hpt hS hc hp hz hpos
 go_enter func87,ntmps87
 go_upto_region 1 with fail
 go_region
 go_upto_region 3 with fail
 refine wp_region_held (S:=fun w'=>MX w' E s cv bv∧FX E w w') (by kernel_rfl) ?_
 change wpAnyH _ _ _ _ _ _ _ _ (World.drew _)
 refine takeH 0 (.slice sa sl sc) rfl (fun _ _ _ h=>h) HS.out (fun w' hS=>?_) ?_
 ·go_simp
 refine takeH 1 (.pointer (some ⟨E.M,0,none⟩)) rfl (fun _ _ _ h=>h) HS.out (fun w' hS=>?_) ?_
 ·go_simp
 refine takeH 2 (.pointer (some ⟨E.M,0,none⟩)) rfl (fun _ _ _ h=>h) HS.out (fun w' hS=>?_) ?_
 ·go_simp
 refine takeH 3 (.pointer (some ⟨E.M,0,none⟩)) rfl (fun _ _ _ h=>h) HS.out (fun w' hS=>?_) ?_
 ·go_simp
 refine takeH 4 (.slice (some E.px) 3 E.pc) rfl (fun _ _ _ h=>h) HS.out (fun w' hS=>?_) ?_
 ·(obtain⟨d0,d1,d2,d3,d5,d8,d9,d10,d11,d12,d13⟩:=hS.1.rd;rw[HPos.out]at d1;have dp:=HPt.out w' hS.2.low;go_simp)
 refine takeH 5 (.pointer (some ⟨E.M,0,none⟩)) rfl (fun _ _ _ h=>h) HS.out (fun w' hS=>?_) ?_
 ·go_simp
 refine takeH 6 (.pointer (some ⟨E.M,0,none⟩)) rfl (fun _ _ _ h=>h) HS.out (fun w' hS=>?_) ?_
 ·go_simp
 refine takeH 7 (.pointer (some ⟨E.M,1,none⟩)) rfl (fun _ _ _ h=>h) HS.out (fun w' hS=>?_) ?_
 ·go_simp
 refine takeH 8 (.int .i64 (i:Int)) rfl (fun _ _ _ h=>h) HS.out (fun w' hS=>?_) ?_
 ·(obtain⟨d0,d1,d2,d3,d5,d8,d9,d10,d11,d12,d13⟩:=hS.1.rd;rw[HPos.out]at d1;have dp:=HPt.out w' hS.2.low;go_simp)
 refine takeH 9 (.pointer (some (E.px.add i))) rfl (fun _ _ _ h=>h) HS.out (fun w' hS=>?_) ?_
 ·go_simp
 refine takeH 10 (.int .i64 p) rfl (fun _ _ _ h=>h) HS.out (fun w' hS=>?_) ?_
 ·(obtain⟨d0,d1,d2,d3,d5,d8,d9,d10,d11,d12,d13⟩:=hS.1.rd;rw[HPos.out]at d1;have dp:=HPt.out w' hS.2.low;go_simp)
 refine wpAnyH_ready (rs:=[11]) (by kernel_rfl) (by simp) ?_
 refine AllReadyH.cons rfl (fun K hK=>?_) AllReadyH.nil
 go_simp
 refine HC.out.mono ?_
 rintro e w3 ⟨rfl,hb3⟩
 have HS3:Hid (MX w3 E s cv bv∧FX E w w3):=⟨HFB.out w3 hb3,HFF.out w3 hb3⟩
 refine hK.out _ _ HS3.out (fun _=>?_)
 clear hK K
 refine takeH 12 (.tuple #[.bool z,.int .i64 0]) rfl (fun _ _ _ h=>h) HS3.out (fun w' hS=>?_) ?_
 ·go_simp
 refine takeH 13 (.bool z) rfl (fun _ _ _ h=>h) HS3.out (fun w' hS=>?_) ?_
 ·go_simp
 refine takeH 14 (.int .i64 0) rfl (fun _ _ _ h=>h) HS3.out (fun w' hS=>?_) ?_
 ·go_simp
 refine takeH 15 (.bool z) rfl (fun _ _ _ h=>h) HS3.out (fun w' hS=>?_) ?_
 ·go_simp
 refine takeH 16 (.int .i64 0) rfl (fun _ _ _ h=>h) HS3.out (fun w' hS=>?_) ?_
 ·go_simp
 refine wpAnyH_done (by kernel_rfl) ?_ _
 have h3:=HFB.out w3 hb3
 have HF3:=hide (HFF.out w3 hb3)
 obtain⟨d0,d1,d2,d3,d5,d8,d9,d10,d11,d12,d13⟩:=h3.rd
 rw[HPos.out]at d1
 have fz:=h3.fr
 have hlt3:=h3.lt
 have HM4:=hide (h3.put 1 (.int .i64 ((i:Int)+1)) { s with pos:=((i+1:Nat):Int) } (by simp) rfl rfl rfl)
 have HF4:=hide (HF3.out.trans (FX.set E w3 h3.lm 1 (.int .i64 ((i:Int)+1))))
 have HM3:=hide h3
 clear HC hb3 h3 HFB HFF HM2 HF2 c0 c1 c2 c3 c5 c8 c9 c10 c11 c12 c13 hcp hcp'
 cases z with
 |true=>
  go_wp2
  go_ret
  exact⟨rfl,HM4.out,HF4.out⟩
 |false=>
  go_wp2
  go_ret
  exact⟨rfl,HM3.out,HF3.out⟩
variable {w w' : World} {E : ME} {s s' : XS} {cv bv : Value}
theorem MX.other(h:MX w E s cv bv){xb:Nat}{cs:Array Value}{fr:Nat×Nat}(hx:w.heap[xb]? =some (.cells cs 149 fr))(hc:xb≠E.cb)(i:Nat)(v:Value):MX (w.setCell ⟨xb,i,none⟩ v) E s cv bv:=by
 have key:∀{k:Nat} {o:Obj},k≠xb→w.heap[k]? =some o→(w.setCell ⟨xb,i,none⟩ v).heap[k]? =some o:=fun {k o} hk ho=>by rw[Below.heap_setCell _ _ _ _ (by simpa using hk)];exact ho
 have nm:∀{k:Nat} {cs:Array Value} {e:TypeId} {fr:Nat×Nat},e≠149→w.heap[k]? =some (.cells cs e fr)→k≠xb:=fun {k cs e fr} he hk ek=>by
  rw[ek,hx]at hk
  cases hk
  exact he rfl
 exact⟨key (nm (by decide) h.box) h.box,key (Ne.symm hc) h.cnt,own_oth h.ch fun b cs hb=>key (nm (by decide) hb) hb,own_oth h.bk fun b cs hb=>key (nm (by decide) hb) hb,h.lm,h.lc⟩
theorem FX.other{X:World}(h:FX E w X){xb:Nat}(h1:w.heap.size≤xb)(h2:E.B≤xb)(i:Nat)(v:Value):FX E w (X.setCell ⟨xb,i,none⟩ v):=
 ⟨h.low.setCell (p:=⟨xb,i,none⟩) h2 v,fun k cs e fr hc a b c d=>by rw[Below.heap_setCell _ _ _ _ (by show k≠xb;have:=lt_of_block hc;omega)];exact h.oth k cs e fr hc a b c d⟩
theorem count_any(h:MX w E s cv bv)(sa:Option Addr)(sl sc:Nat)(hl:s.ch.length≤1000):Calls prog 92 #[.pointer (some ⟨E.M,0,none⟩),opV ⟨9,sa,sl,sc,0,0,0,0,false,false⟩] w fun e w'=>e=.returned (.tuple #[])∧(∃cv',MX w' E { s with ch:=s.ch++[s.num],num:=0 } cv' bv)∧FX E w w':=by
 obtain⟨W,hW⟩:=named (w.alloc (opO ⟨9,sa,sl,sc,0,0,0,0,false,false⟩))
 have hbW:Below w.heap.size w W:=by rw[hW];exact allocB _ _
 have hob:W.heap[w.heap.size]? =some (opO ⟨9,sa,sl,sc,0,0,0,0,false,false⟩):=by rw[hW];exact at_new _ _
 obtain⟨ob,hobe⟩:=named w.heap.size
 rw[← hobe]at hob
 have hoM:ob≠E.M:=by have:=h.lt;omega
 have hoC:ob≠E.cb:=by have:=lt_of_block h.cnt;omega
 have h1:=h.keep hbW
 have hF1:=FX.of hbW h.ltB
 have dM:∀(X:World) (t:XS) (a c:Value),MX X E t a c→MX X.drew E t a c:=fun X t a c h=>h.drew
 have dh:∀X:World,X.drew.heap=X.heap:=fun _=>rfl
 have dF:∀(Y X:World),FX E Y X→FX E Y X.drew:=fun Y X h=>h.drew
 obtain⟨W1,hW1⟩:=named ((W.alloc (cnO s.num)).drew)
 have hba:Below W.heap.size W (W.alloc (cnO s.num)):=allocB _ _
 have hx1:W1.heap[W.heap.size]? =some (cnO s.num):=by rw[hW1,dh];exact at_new _ _
 obtain⟨xb,hxb⟩:=named W.heap.size
 rw[← hxb]at hx1
 have hxC:xb≠E.cb:=by have:=lt_of_block h1.cnt;omega
 have hxM:xb≠E.M:=by have:=h1.lt;omega
 have hxO:xb≠ob:=by have:=lt_of_block hob;omega
 have hxw:w.heap.size≤xb:=by have:=hbW.size;omega
 have hxB:E.B≤xb:=by have:=h.ltB;omega
 have h2:MX W1 E s cv bv:=by rw[hW1];exact dM _ _ _ _ (h1.keep hba)
 have hob2:W1.heap[ob]? =some (opO ⟨9,sa,sl,sc,0,0,0,0,false,false⟩):=by rw[hW1,dh];exact below_at hba hob
 have hF2:FX E w W1:=by rw[hW1];exact dF _ _ (hF1.trans (FX.of hba h1.ltB))
 obtain⟨W2,hW2⟩:=named (W1.setCell ⟨xb,0,none⟩ (.int .i64 (0)))
 have h3:MX W2 E s cv bv:=by rw[hW2];exact h2.other hx1 hxC 0 _
 have hx2:W2.heap[xb]? =some (cnO (0)):=by rw[hW2,set_oneQ hx1];rfl
 have hob3:W2.heap[ob]? =some (opO ⟨9,sa,sl,sc,0,0,0,0,false,false⟩):=by rw[hW2,Below.heap_setCell _ _ _ _ (by show ob≠xb;exact Ne.symm hxO)];exact hob2
 have hF3:FX E w W2:=by rw[hW2];exact hF2.other hxw hxB 0 _
 have HP:=hide (put_any (h3.drew) (0) hl)
 have HFd:=hide hF3.drew
 obtain⟨b0,b1,b2,b3,b4,b5,b6,b7⟩:=op_cells hob
 simp only[Nat.zero_add]at b0 b1 b2 b3 b4 b5 b6 b7
 obtain⟨c0,c1,c2,c3,c5,c8,c9,c10,c11,c12,c13⟩:=h1.rd
 obtain⟨z0,z1,z2⟩:=h1.cr
 have hl1:=lt_of_block h1.cnt
 have hl2:=lt_of_block hob
 have hl3:=h1.lt
 obtain⟨y0,y1,y2,y3,y4,y5,y6,y7⟩:=op_cells hob2
 simp only[Nat.zero_add]at y0 y1 y2 y3 y4 y5 y6 y7
 obtain⟨v0,v1,v2,v3,v4,v5,v6,v7⟩:=op_cells hob3
 simp only[Nat.zero_add]at v0 v1 v2 v3 v4 v5 v6 v7
 have x0:W1.cell? ⟨xb,0,none⟩=some (.int .i64 s.num):=by simp[World.cell?,hx1]
 have fx:∀o,W1.frozen? ⟨xb,o,none⟩=false:=fun o=>by simp[World.frozen?,hx1]
 have u0:W2.cell? ⟨xb,0,none⟩=some (.int .i64 (0)):=by simp[World.cell?,hx2]
 have u1:W2.cell? ⟨xb,1,none⟩=some (.int .i64 0):=by simp[World.cell?,hx2]
 have u2:W2.cell? ⟨xb,2,none⟩=some (.int .i64 0):=by simp[World.cell?,hx2]
 have HX2:=hide hx2
 have HO3:=hide hob3
 have HF3:=hide hF3
 have HW1:=hide hW1
 have HW2:=hide hW2
 simp only[opO]at hW
 clear h h1 h2 h3 hbW hF1 hF2 hF3 dM dh dF hW1 hW2 hba hx1 hx2 hob hob2 hob3
 go_enter func92,ntmps92
 go_upto_region 1 with fail
 rw[← hW, ←hobe]
 clear hW hobe
 go_region
 rw[← HW1.out, ←hxb]
 clear hxb b0 b1 b2 b3 b4 b5 b6 b7 c0 c1 c2 c3 c5 c8 c9 c10 c11 c12 c13 z0 z1 z2 hl1 hl2 hl3
 go_upto_region 10 with fail
 rw[← HW2.out]
 clear y0 y1 y2 y3 y4 y5 y6 y7 x0 fx
 go_still_tail 6,(by kernel_rfl)
 go_wp2_with fail
 refine HP.out.mono ?_
 rintro e w9 ⟨rfl,⟨cv',hm9⟩,hf9⟩
 have HM9:=hide hm9
 have HF9:=hide (HFd.out.trans hf9)
 clear hm9 hf9 HP v0 v1 v2 v3 v4 v5 v6 v7 u0 u1 u2
 go_wp2
 go_end0
 exact⟨rfl,⟨_,HM9.out⟩,HF9.out⟩
theorem more_any(h:MX w E s cv bv)(sa:Option Addr)(sl sc:Nat)(hl:s.ch.length≤1000)(ot:Int)(hn:0≤s.num∧s.num<1000):Calls prog 92 #[.pointer (some ⟨E.M,0,none⟩),opV ⟨10,sa,sl,sc,0,ot,0,0,false,false⟩] w fun e w'=>e=.returned (.tuple #[])∧(∃cv',MX w' E { s with ch:=s.ch++[s.num],num:=s.num+1 } cv' bv)∧FX E w w':=by
 obtain⟨W,hW⟩:=named (w.alloc (opO ⟨10,sa,sl,sc,0,ot,0,0,false,false⟩))
 have hbW:Below w.heap.size w W:=by rw[hW];exact allocB _ _
 have hob:W.heap[w.heap.size]? =some (opO ⟨10,sa,sl,sc,0,ot,0,0,false,false⟩):=by rw[hW];exact at_new _ _
 obtain⟨ob,hobe⟩:=named w.heap.size
 rw[← hobe]at hob
 have hoM:ob≠E.M:=by have:=h.lt;omega
 have hoC:ob≠E.cb:=by have:=lt_of_block h.cnt;omega
 have h1:=h.keep hbW
 have hF1:=FX.of hbW h.ltB
 have dM:∀(X:World) (t:XS) (a c:Value),MX X E t a c→MX X.drew E t a c:=fun X t a c h=>h.drew
 have dh:∀X:World,X.drew.heap=X.heap:=fun _=>rfl
 have dF:∀(Y X:World),FX E Y X→FX E Y X.drew:=fun Y X h=>h.drew
 obtain⟨W1,hW1⟩:=named ((W.alloc (cnO s.num)).drew)
 have hba:Below W.heap.size W (W.alloc (cnO s.num)):=allocB _ _
 have hx1:W1.heap[W.heap.size]? =some (cnO s.num):=by rw[hW1,dh];exact at_new _ _
 obtain⟨xb,hxb⟩:=named W.heap.size
 rw[← hxb]at hx1
 have hxC:xb≠E.cb:=by have:=lt_of_block h1.cnt;omega
 have hxM:xb≠E.M:=by have:=h1.lt;omega
 have hxO:xb≠ob:=by have:=lt_of_block hob;omega
 have hxw:w.heap.size≤xb:=by have:=hbW.size;omega
 have hxB:E.B≤xb:=by have:=h.ltB;omega
 have h2:MX W1 E s cv bv:=by rw[hW1];exact dM _ _ _ _ (h1.keep hba)
 have hob2:W1.heap[ob]? =some (opO ⟨10,sa,sl,sc,0,ot,0,0,false,false⟩):=by rw[hW1,dh];exact below_at hba hob
 have hF2:FX E w W1:=by rw[hW1];exact dF _ _ (hF1.trans (FX.of hba h1.ltB))
 obtain⟨W2,hW2⟩:=named (W1.setCell ⟨xb,0,none⟩ (.int .i64 (s.num+1)))
 have h3:MX W2 E s cv bv:=by rw[hW2];exact h2.other hx1 hxC 0 _
 have hx2:W2.heap[xb]? =some (cnO (s.num+1)):=by rw[hW2,set_oneQ hx1];rfl
 have hob3:W2.heap[ob]? =some (opO ⟨10,sa,sl,sc,0,ot,0,0,false,false⟩):=by rw[hW2,Below.heap_setCell _ _ _ _ (by show ob≠xb;exact Ne.symm hxO)];exact hob2
 have hF3:FX E w W2:=by rw[hW2];exact hF2.other hxw hxB 0 _
 have HJ:=hide (jumpIf_any h3 false ot)
 obtain⟨b0,b1,b2,b3,b4,b5,b6,b7⟩:=op_cells hob
 simp only[Nat.zero_add]at b0 b1 b2 b3 b4 b5 b6 b7
 obtain⟨c0,c1,c2,c3,c5,c8,c9,c10,c11,c12,c13⟩:=h1.rd
 obtain⟨z0,z1,z2⟩:=h1.cr
 have hl1:=lt_of_block h1.cnt
 have hl2:=lt_of_block hob
 have hl3:=h1.lt
 obtain⟨y0,y1,y2,y3,y4,y5,y6,y7⟩:=op_cells hob2
 simp only[Nat.zero_add]at y0 y1 y2 y3 y4 y5 y6 y7
 obtain⟨v0,v1,v2,v3,v4,v5,v6,v7⟩:=op_cells hob3
 simp only[Nat.zero_add]at v0 v1 v2 v3 v4 v5 v6 v7
 have x0:W1.cell? ⟨xb,0,none⟩=some (.int .i64 s.num):=by simp[World.cell?,hx1]
 have fx:∀o,W1.frozen? ⟨xb,o,none⟩=false:=fun o=>by simp[World.frozen?,hx1]
 have u0:W2.cell? ⟨xb,0,none⟩=some (.int .i64 (s.num+1)):=by simp[World.cell?,hx2]
 have u1:W2.cell? ⟨xb,1,none⟩=some (.int .i64 0):=by simp[World.cell?,hx2]
 have u2:W2.cell? ⟨xb,2,none⟩=some (.int .i64 0):=by simp[World.cell?,hx2]
 have HX2:=hide hx2
 have HO3:=hide hob3
 have HF3:=hide hF3
 have HW1:=hide hW1
 have HW2:=hide hW2
 simp only[opO]at hW
 clear h h1 h2 h3 hbW hF1 hF2 hF3 dM dh dF hW1 hW2 hba hx1 hx2 hob hob2 hob3
 have ew:IntKind.i64.wrap (s.num+1)=s.num+1:=by rw[IntKind.wrap_i64];omega
 have emin:min (s.num+1) (1000:Int)=s.num+1:=by omega
 have e3:¬s.num+1<(0:Int):=by omega
 have e4:s.num+1≤(1000:Int):=by omega
 go_enter func92,ntmps92
 go_upto_region 1 with fail
 rw[← hW, ←hobe]
 clear hW hobe
 go_region
 rw[← HW1.out, ←hxb]
 clear hxb b0 b1 b2 b3 b4 b5 b6 b7 c0 c1 c2 c3 c5 c8 c9 c10 c11 c12 c13 z0 z1 z2 hl1 hl2 hl3
 go_upto_region 9 with fail
 rw[← HW2.out]
 clear y0 y1 y2 y3 y4 y5 y6 y7 x0 fx
 go_wp2_with fail
 refine HJ.out.mono ?_
 rintro e w8 ⟨rfl,hm8,hf8⟩
 have hm8:MX w8 E s cv bv:=hm8
 have hx8:=hf8.oth _ _ _ _ HX2.out hxM hxC (by decide) (by decide)
 have ho8:=hf8.oth _ _ _ _ HO3.out hoM hoC (by decide) (by decide)
 have HP:=hide (put_any hm8.drew (s.num+1) hl)
 have HFd:=hide ((HF3.out.trans hf8).drew)
 obtain⟨a0,a1,a2,a3,a4,a5,a6,a7⟩:=op_cells ho8
 simp only[Nat.zero_add]at a0 a1 a2 a3 a4 a5 a6 a7
 have k0:w8.cell? ⟨xb,0,none⟩=some (.int .i64 (s.num+1)):=by simp[World.cell?,hx8]
 have k1:w8.cell? ⟨xb,1,none⟩=some (.int .i64 0):=by simp[World.cell?,hx8]
 have k2:w8.cell? ⟨xb,2,none⟩=some (.int .i64 0):=by simp[World.cell?,hx8]
 clear hm8 hf8 hx8 ho8 HJ v0 v1 v2 v3 v4 v5 v6 v7 u0 u1 u2
 go_upto_region 10 with fail
 go_still_tail 6,(by kernel_rfl)
 go_wp2_with fail
 refine HP.out.mono ?_
 rintro e w9 ⟨rfl,⟨cv',hm9⟩,hf9⟩
 have HM9:=hide hm9
 have HF9:=hide (HFd.out.trans hf9)
 clear hm9 hf9 HP a0 a1 a2 a3 a4 a5 a6 a7 k0 k1 k2
 go_wp2
 go_end0
 exact⟨rfl,⟨_,HM9.out⟩,HF9.out⟩
end Go.Proofs.YtfnndcbjklppeaaGreatDoor.Vm
