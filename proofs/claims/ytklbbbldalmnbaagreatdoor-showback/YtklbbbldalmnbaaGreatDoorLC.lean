import Derived.Test.YtklbbbldalmnbaaGreatDoorLB
import Derived.Deep.RegionHeld3
set_option maxHeartbeats 16000000
set_option linter.unusedVariables false
set_option maxRecDepth 100000
open Go.Proofs.Tryz
namespace Go.Proofs.YtklbbbldalmnbaaGreatDoor.Br
open Go.RowKit
open TK (Mv bJ bU bE aS lz)
variable {w w' : World} {b : Nat} {v : Value} {l : List Int} {i : Nat} {d : Int} {fo : Bool}
noncomputable def ir(d:Int)(fo:Bool)(l:List Int)(i:Nat):Except BE (PS×Nat):=match fl (par d fo) 21 l i 0 with
 | .error e=>.error e
 | .ok (f,k)=>if bC f then .error (2,0)else .ok (f,k)
def zW(d:Int)(fo:Bool)(l:List Int)(i:Nat)(w:World)(e:Ending)(w':World):Prop:=
 (∃f k sv L,ir d fo l i=.ok (f,k)/\e=.returned (.tuple #[sv,.int .i64 (k:Nat),.agg #[.int .i64 0,.int .i64 0]])/\OR w' w.heap.size sv L/\bg f L/\L.length<=400/\k<=l.length/\Below w.heap.size w w')\/
 (∃z c:Int,ir d fo l i=.error (z,c)/\e=.returned (.tuple #[.slice none 0 0,.int .i64 0,.agg #[.int .i64 z,.int .i64 c]])/\Below w.heap.size w w')
theorem cQ{W:World}{N j:Nat}{o:Obj}(h:W.heap[j]? =some o)(hne:j≠N)(k:Nat)(u:Value):(W.setCell ⟨N,k,none⟩ u).heap[j]? =some o:=by rw[Below.heap_setCell _ _ _ _ hne];exact h
theorem zl{W:World}{N:Nat}{s s':Value}(h:W.heap[N]? =some (mw s)):(W.setCell ⟨N,0,none⟩ s').heap[N]? =some (mw s'):=by
 unfold mw at h |-
 rw[TK.bd h]
 simp
theorem I7{W:World}{N:Nat}{s s':Int}(h:W.heap[N]? =some (mn s)):(W.setCell ⟨N,0,none⟩ (.int .i64 s')).heap[N]? =some (mn s'):=by
 unfold mn at h |-
 rw[TK.bd h]
 simp
theorem gZ{W:World}{N:Nat}{e a e' a':Int}(h:W.heap[N]? =some (bm e a)):((W.setCell ⟨N,0,none⟩ (.int .i64 e')).setCell ⟨N,1,none⟩ (.int .i64 a')).heap[N]? =some (bm e' a'):=by
 unfold bm at h |-
 rw[TK.bd (TK.bd h _ _) _ _]
 simp
structure rB(w W:World)(sv:Value)(k:Nat)(L:RL):Prop where
 n0:W.heap[w.heap.size]? =some (mw sv)
 n1:W.heap[w.heap.size+1]? =some (mn 0)
 n2:W.heap[w.heap.size+1+1]? =some (bm 0 0)
 n3:W.cell? ⟨w.heap.size+1+1+1,1,none⟩=some (.int .i64 k)
 sz:w.heap.size+3<W.heap.size
 own:OR W (w.heap.size+1+1+1+1) sv L
 G8:Below w.heap.size w W
theorem rB.ar{W W':World}{sv:Value}{k:Nat}{L:RL}(h:rB w W sv k L)(hb:Below W.heap.size W W'):rB w W' sv k L:=
 ⟨by rw[hb.block _ (lt_of_block h.n0)];exact h.n0,by rw[hb.block _ (lt_of_block h.n1)];exact h.n1,by rw[hb.block _ (lt_of_block h.n2)];exact h.n2,aE hb (bb h.n3) h.n3,Nat.lt_of_lt_of_le h.sz hb.size,h.own.below hb,h.G8.trans (hb.mono h.G8.size)⟩
theorem rB.last{W:World}{sv:Value}{k:Nat}{L:RL}(h:rB w W sv k L):let W':=(((W.setCell ⟨w.heap.size,0,none⟩ sv).setCell ⟨w.heap.size+1,0,none⟩ (.int .i64 k)).setCell ⟨w.heap.size+1+1,0,none⟩ (.int .i64 0)).setCell ⟨w.heap.size+1+1,1,none⟩ (.int .i64 0)
  W'.heap[w.heap.size]? =some (mw sv)/\W'.heap[w.heap.size+1]? =some (mn k)/\W'.heap[w.heap.size+1+1]? =some (bm 0 0)/\OR W' w.heap.size sv L/\Below w.heap.size w W':=by
 have e1:w.heap.size≠w.heap.size+1:=by omega
 have e2:w.heap.size≠w.heap.size+1+1:=by omega
 have e3:w.heap.size+1≠w.heap.size+1+1:=by omega
 refine⟨cQ (cQ (cQ (zl h.n0) e1 _ _) e2 _ _) e2 _ _,cQ (cQ (I7 (cQ h.n1 e1.symm _ _)) e3 _ _) e3 _ _,gZ (cQ (cQ h.n2 e2.symm _ _) e3.symm _ _),?_,?_⟩
 ·have a1:=h.own
  have hset:∀(X:World) (j o:Nat) (u:Value),j<w.heap.size+1+1+1->OR X (w.heap.size+1+1+1+1) sv L->OR (X.setCell ⟨j,o,none⟩ u) (w.heap.size+1+1+1+1) sv L:=by
   intro X j o u hj hX
   obtain⟨h1,h2⟩:=(show X.ownsRow _ 76 2 sv L.length (aN L)from hX)
   refine⟨h1,?_⟩
   rcases h2 with h|⟨g,cap,cur,rfl,hg,hh,hn,hm',hs,ht⟩
   ·exact .inl h
   ·exact .inr ⟨g,cap,cur,rfl,hg,by rw[Below.heap_setCell _ _ _ _ (by show g≠j;omega)];exact hh,hn,hm',hs,ht⟩
  exact(hset _ _ _ _ (by omega) (hset _ _ _ _ (by omega) (hset _ _ _ _ (by omega) (hset _ _ _ _ (by omega) a1)))).low (by omega)
 ·exact(((h.G8.setCell (p:=⟨w.heap.size,0,none⟩) (U _) _).setCell (p:=⟨w.heap.size+1,0,none⟩) (by show _<=_;simp) _).setCell (p:=⟨w.heap.size+1+1,0,none⟩) (by show w.heap.size<=w.heap.size+1+1;omega) _).setCell (p:=⟨w.heap.size+1+1,1,none⟩) (by show w.heap.size<=w.heap.size+1+1;omega) _
theorem GZ(h:bJ w v l)(hT:Fo.iP w)(hpos:3<w.heap.size)(hsm:l.length<=300)(hpts:∀p∈l,0<=p/\p<=1114111)(hdia:d=1\/d=2\/d=3)(hi:i<=l.length){z c:Int}(hX:fl (par d fo) 21 l i 0=.error (z,c)):
  Calls prog 153 #[.int .i64 d,v,.int .i64 i,.bool fo] w fun e w'=>zW d fo l i w e w':=by
 have hE:Hid (ir d fo l i=.error (z,c)):=by show _=_;unfold ir;rw[hX]
 have hmf:∀(fn:Fn) (first cap:Array Value) (w:World),(Instr.makeFunc fn first cap).run prog w=.ok (.func fn first cap) w:=fun _ _ _ _=>rfl
 have hb0:Below w.heap.size w ((((w.alloc (mw (.slice none 0 0))).alloc (mn 0)).alloc (bm 0 0)).alloc (.cells #[v,.int .i64 i,.int .i64 d,.bool fo] 185)):=((((J _ w).alloc (U _) _).alloc (by simp) _).alloc (by simp;omega) _).alloc (by simp;omega) _
 have hBB:BB ((((w.alloc (mw (.slice none 0 0))).alloc (mn 0)).alloc (bm 0 0)).alloc (.cells #[v,.int .i64 i,.int .i64 d,.bool fo] 185)) (w.heap.size+1+1+1) v l i d fo:=
  ⟨TK.bp _ _ (by simp),h.below hb0,fun x c hl e=>by
   obtain⟨y,c',e',_,hr⟩:=h.some hl
   rw[e']at e
   cases e
   have:=World.block_lt_of_cell? _ _ (hr 0 hl)
   rw[aS]at this
   omega,hsm,hi,hpts,hdia,hT.below hb0 hpos,by omega⟩
 have hX0:=nh (d:=d) (fo:=fo) (b:=w.heap.size+1+1+1) (v:=v) (l:=l) 21 0 rfl (by omega) _ i hBB
 rw[hX]at hX0
 rw[show ((0:Nat):Int)=0 from rfl]at hX0
 obtain⟨ao,ac,hv⟩:=h.shape
 have HX:=I hX0
 have HB0:=I hb0
 have hg0:Hid (∀w1,Mv (w.heap.size+1+1+1) ((((w.alloc (mw (.slice none 0 0))).alloc (mn 0)).alloc (bm 0 0)).alloc (.cells #[v,.int .i64 i,.int .i64 d,.bool fo] 185)) w1->w1.heap[w.heap.size]? =some (mw (.slice none 0 0))/\w1.heap[w.heap.size+1]? =some (mn 0)/\w1.heap[w.heap.size+1+1]? =some (bm 0 0)/\Below w.heap.size w w1):=by
  intro w1 hm
  refine⟨TK.Mv.aC hm (TK.ba (TK.ba (TK.ba (TK.aj _ _)))) (by omega),TK.Mv.aC hm (TK.ba (TK.ba (TK.bp _ _ (by simp)))) (by omega),TK.Mv.aC hm (TK.ba (TK.bp _ _ (by simp))) (by omega),?_⟩
  exact hb0.trans ((hm.below (by simp)).mono (by omega))
 have hsz0:Hid (((((w.alloc (mw (.slice none 0 0))).alloc (mn 0)).alloc (bm 0 0)).alloc (.cells #[v,.int .i64 i,.int .i64 d,.bool fo] 185)).heap.size=w.heap.size+1+1+1+1):=by show _=_;simp
 clear hb0 hBB h hT hsm hpts hdia hi hX0
 obtain⟨n,hn⟩:∃n,n=l.length:=⟨_,rfl⟩
 rw[<- hn]at hv
 have HN:=I hn
 rw[hv]at HX HB0 hg0 hsz0 |-
 clear hn hv
 simp only[mw,mn,bm]at HX HB0 hg0 hsz0
 go_enter_defers func153,ntmps153
 go_wp2_with fail
 refine HX.o.mono ?_
 rintro e w1 (⟨f',k',sv,L,hp,rfl,ho,hs,hr,hik,hm⟩|⟨z',a',hp,rfl,hm⟩)
 ·cases hp
 ·cases hp
  obtain⟨g0,g1,g2,g3⟩:=hg0.o w1 hm
  have G0:=I g0
  have G1:=I g1
  have G2:=I g2
  have G3:=I g3
  clear hm HX HB0 hg0 g0 g1 g2 g3 hX
  simp only[aw]
  go_wp2
  exact sb (N:=w.heap.size) rfl rfl rfl G0.o G1.o G2.o (fun W' hb=>.inr ⟨z,c,hE.o,rfl,G3.o.trans hb⟩)
theorem FH(h:bJ w v l)(hT:Fo.iP w)(hpos:3<w.heap.size)(hsm:l.length<=300)(hpts:∀p∈l,0<=p/\p<=1114111)(hdia:d=1\/d=2\/d=3)(hi:i<=l.length){f:PS}{k:Nat}(hX:fl (par d fo) 21 l i 0=.ok (f,k))(hf:bC f=false):
  Calls prog 153 #[.int .i64 d,v,.int .i64 i,.bool fo] w fun e w'=>zW d fo l i w e w':=by
 have hE:Hid (ir d fo l i=.ok (f,k)):=by show _=_;unfold ir;rw[hX];simp[hf]
 have hmf:∀(fn:Fn) (first cap:Array Value) (w:World),(Instr.makeFunc fn first cap).run prog w=.ok (.func fn first cap) w:=fun _ _ _ _=>rfl
 have hb0:Below w.heap.size w ((((w.alloc (mw (.slice none 0 0))).alloc (mn 0)).alloc (bm 0 0)).alloc (.cells #[v,.int .i64 i,.int .i64 d,.bool fo] 185)):=((((J _ w).alloc (U _) _).alloc (by simp) _).alloc (by simp;omega) _).alloc (by simp;omega) _
 have hBB:BB ((((w.alloc (mw (.slice none 0 0))).alloc (mn 0)).alloc (bm 0 0)).alloc (.cells #[v,.int .i64 i,.int .i64 d,.bool fo] 185)) (w.heap.size+1+1+1) v l i d fo:=
  ⟨TK.bp _ _ (by simp),h.below hb0,fun x c hl e=>by
   obtain⟨y,c',e',_,hr⟩:=h.some hl
   rw[e']at e
   cases e
   have:=World.block_lt_of_cell? _ _ (hr 0 hl)
   rw[aS]at this
   omega,hsm,hi,hpts,hdia,hT.below hb0 hpos,by omega⟩
 have hX0:=nh (d:=d) (fo:=fo) (b:=w.heap.size+1+1+1) (v:=v) (l:=l) 21 0 rfl (by omega) _ i hBB
 rw[hX]at hX0
 rw[show ((0:Nat):Int)=0 from rfl]at hX0
 obtain⟨ao,ac,hv⟩:=h.shape
 have HX:=I hX0
 have HB0:=I hb0
 have hg0:Hid (∀w1,Mv (w.heap.size+1+1+1) ((((w.alloc (mw (.slice none 0 0))).alloc (mn 0)).alloc (bm 0 0)).alloc (.cells #[v,.int .i64 i,.int .i64 d,.bool fo] 185)) w1->w1.heap[w.heap.size]? =some (mw (.slice none 0 0))/\w1.heap[w.heap.size+1]? =some (mn 0)/\w1.heap[w.heap.size+1+1]? =some (bm 0 0)/\Below w.heap.size w w1):=by
  intro w1 hm
  refine⟨TK.Mv.aC hm (TK.ba (TK.ba (TK.ba (TK.aj _ _)))) (by omega),TK.Mv.aC hm (TK.ba (TK.ba (TK.bp _ _ (by simp)))) (by omega),TK.Mv.aC hm (TK.ba (TK.bp _ _ (by simp))) (by omega),?_⟩
  exact hb0.trans ((hm.below (by simp)).mono (by omega))
 have hsz0:Hid (((((w.alloc (mw (.slice none 0 0))).alloc (mn 0)).alloc (bm 0 0)).alloc (.cells #[v,.int .i64 i,.int .i64 d,.bool fo] 185)).heap.size=w.heap.size+1+1+1+1):=by show _=_;simp
 clear hb0 hBB h hT hsm hpts hdia hi hX0
 obtain⟨n,hn⟩:∃n,n=l.length:=⟨_,rfl⟩
 rw[<- hn]at hv
 have HN:=I hn
 rw[hv]at HX HB0 hg0 hsz0 |-
 clear hn hv
 simp only[mw,mn,bm]at HX HB0 hg0 hsz0
 go_enter_defers func153,ntmps153
 go_wp2_with fail
 refine HX.o.mono ?_
 rintro e w1 (⟨f',k',sv,L,hp,rfl,ho,hs,hr,hik,hm⟩|⟨z',a',hp,rfl,hm⟩)
 case inr=>cases hp
 obtain⟨rfl,rfl⟩:f=f'/\k=k':=by cases hp;exact⟨rfl,rfl⟩
 have hfl:=eW hs
 rw[hf]at hfl
 have hL:L.length<=400:=by have:=of_decide_eq_false hfl.symm;omega
 obtain⟨g0,g1,g2,g3⟩:=hg0.o w1 hm
 have hkl:=I hr.at'
 have hc1:=hr.cells.2.1
 have hw1s:w.heap.size+3<w1.heap.size:=by have:=hr.lt;omega
 rw[hsz0.o]at ho
 have hDo:Hid (rB w (w1.setCell ⟨w.heap.size,0,none⟩ sv) sv k L):=by
  have e1:w.heap.size≠w.heap.size+1:=by omega
  have e2:w.heap.size≠w.heap.size+1+1:=by omega
  refine⟨zl g0,cQ g1 e1.symm _ _,cQ g2 e2.symm _ _,?_,by simpa[World.setCell]using hw1s,?_,g3.setCell (p:=⟨w.heap.size,0,none⟩) (U _) _⟩
  ·unfold World.cell? at hc1 |-
   rw[Below.heap_setCell _ _ _ _ (by show w.heap.size+1+1+1≠w.heap.size;omega)]
   exact hc1
  ·obtain ⟨h1,h2⟩:=(show w1.ownsRow _ 76 2 sv L.length (aN L)from ho)
   refine⟨h1,?_⟩
   rcases h2 with h|⟨g,cap,cur,rfl,hg,hh,hn',hm',hs',ht⟩
   ·exact .inl h
   ·exact .inr ⟨g,cap,cur,rfl,hg,by rw[Below.heap_setCell _ _ _ _ (by show g≠w.heap.size;omega)];exact hh,hn',hm',hs',ht⟩
 obtain⟨m0,f0⟩:=dn (sv:=.slice none 0 0) g0
 have HS:=I hs
 obtain⟨so,sc,hsv⟩:=ho.shape
 obtain⟨ln,hln⟩:∃ln,ln=L.length:=⟨_,rfl⟩
 rw[<- hln]at hsv
 have HLN:=I hln
 have HSV:=I hsv
 have HLL:=I hL
 rw[hsv]at hDo |-
 clear hp ho hs hr hik hm hX hf hfl g0 g1 g2 g3 hc1 hw1s HX HB0 hg0 hsz0 hsv hln hL
 go_upto_region 4 with fail
 obtain⟨W,hW⟩:∃W,W=w1.setCell ⟨w.heap.size,0,none⟩ (.slice so ln sc):=⟨_,rfl⟩
 rw[<- hW]at hDo |-
 clear hW m0 f0
 have HK:=I (fun W' (hD:rB w W' (.slice so ln sc) k L)=>dA _ L W' hD.own.reads)
 rw[fR.2 ⟨HLL.o,HS.o.1⟩]at HK
 have HMd:=I (fun W'=>lr so ln sc W')
 refine wp_region_noPanic ?_
 have hDd:=hDo.o.ar (W':=W.drew) ⟨rfl,rfl,rfl,U _,fun _ _=>rfl⟩
 have HDd:=I hDd
 have HSs:=I hDd.n3
 obtain⟨m0,f0⟩:=dn hDd.n0
 refine wp_region_held (S:=fun w'=>w'.cell? ⟨w.heap.size+1+1+1,1,none⟩=some (.int .i64 k)) (by kernel_rfl) ?_
 change wpAnyH _ _ _ _ _ _ _ _ (World.drew _)
 clear hDd
 refine wpAnyH_take (i:=4) (v:=.pointer (some ⟨w.heap.size+1+1+1,0,none⟩)) rfl (by kernel_rfl) (by kernel_rfl) (by kernel_rfl) (fun _ _ _ h=>h) (Or.inl ⟨by kernel_rfl,fun w' hS=>?_⟩) HSs.o ?_
 ·go_simp
 refine wpAnyH_take (i:=5) (v:=.pointer (some ⟨w.heap.size+1+1+1,0,none⟩)) rfl (by kernel_rfl) (by kernel_rfl) (by kernel_rfl) (fun _ _ _ h=>h) (Or.inl ⟨by kernel_rfl,fun w' hS=>?_⟩) HSs.o ?_
 ·go_simp
 refine wpAnyH_take (i:=6) (v:=.pointer (some ⟨w.heap.size+1+1+1,0,none⟩)) rfl (by kernel_rfl) (by kernel_rfl) (by kernel_rfl) (fun _ _ _ h=>h) (Or.inl ⟨by kernel_rfl,fun w' hS=>?_⟩) HSs.o ?_
 ·go_simp
 refine wpAnyH_take (i:=7) (v:=.pointer (some ⟨w.heap.size+1+1+1,1,none⟩)) rfl (by kernel_rfl) (by kernel_rfl) (by kernel_rfl) (fun _ _ _ h=>h) (Or.inl ⟨by kernel_rfl,fun w' hS=>?_⟩) HSs.o ?_
 ·go_simp
 refine wpAnyH_take (i:=8) (v:=.int .i64 k) rfl (by kernel_rfl) (by kernel_rfl) (by kernel_rfl) (fun _ _ _ h=>h) (Or.inl ⟨by kernel_rfl,fun w' hS=>?_⟩) HSs.o ?_
 ·go_simp
 refine wpAnyH_take (i:=9) (v:=.agg #[.int .i64 0,.int .i64 0]) rfl (by kernel_rfl) (by kernel_rfl) (by kernel_rfl) (fun _ _ _ h=>h) (Or.inl ⟨by kernel_rfl,fun w' hS=>?_⟩) HSs.o ?_
 ·go_simp
 refine wpAnyH_ready (rs:=[0,1]) (by kernel_rfl) (by simp) ?_
 refine AllReadyH.cons rfl (fun K hK=>?_) (AllReadyH.cons rfl (fun K hK=>?_) AllReadyH.nil)
 ·go_simp
  refine hK.out _ _ HDd.o.n3 (fun _=>?_)
  clear hK K
  refine wpAnyH_ready (rs:=[1]) (by kernel_rfl) (by simp) ?_
  refine AllReadyH.cons rfl (fun K hK=>?_) AllReadyH.nil
  go_simp
  refine hK.out _ _ HDd.o.n3 (fun _=>?_)
  clear hK K
  refine wpAnyH_ready (rs:=[2]) (by kernel_rfl) (by simp) ?_
  refine AllReadyH.cons rfl (fun K hK=>?_) AllReadyH.nil
  go_simp
  refine(HK.o _ HDd.o).mono ?_
  rintro e w7 ⟨rfl,hb7⟩
  have HD7:=I (HDd.o.ar hb7)
  have m7:=(dn HD7.o.n0).1
  refine hK.out _ _ HD7.o.n3 (fun _=>?_)
  clear hK K hb7
  refine wpAnyH_ready (rs:=[3]) (by kernel_rfl) (by simp) ?_
  refine AllReadyH.cons rfl (fun K hK=>?_) AllReadyH.nil
  go_simp
  refine(HMd.o _).mono ?_
  rintro e w8 ⟨rfl,rfl⟩
  refine hK.out _ _ HD7.o.n3 (fun _=>?_)
  clear hK K
  have hDx:=HD7.o
  obtain⟨x0,y0⟩:=dn hDx.n0
  obtain⟨x1,y1⟩:=jn hDx.n1
  obtain⟨x2,x3,y2⟩:=bh hDx.n2
  have hla:=hDx.last
  have u1:¬w.heap.size=w.heap.size+1:=by omega
  have u2:¬w.heap.size+1=w.heap.size:=by omega
  have u3:¬w.heap.size=w.heap.size+1+1:=by omega
  have u4:¬w.heap.size+1+1=w.heap.size:=by omega
  have u5:¬w.heap.size+1=w.heap.size+1+1:=by omega
  have u6:¬w.heap.size+1+1=w.heap.size+1:=by omega
  have x9:=hDx.n3
  have HLA:=I hla
  clear hla hDx
  refine wpAnyH_ready (rs:=[10]) (by kernel_rfl) (by simp) ?_
  refine AllReadyH.cons rfl (fun K hK=>?_) AllReadyH.nil
  go_simp
  refine hK.out _ _ (by rw[World.cell?_setCell_far _ _ _ _ (by show w.heap.size≠w.heap.size+1+1+1;omega)];exact x9) (fun hS1=>?_)
  clear hK K
  refine wpAnyH_ready (rs:=[11]) (by kernel_rfl) (by simp) ?_
  refine AllReadyH.cons rfl (fun K hK=>?_) AllReadyH.nil
  go_simp
  refine hK.out _ _ (by rw[World.cell?_setCell_far _ _ _ _ (by show w.heap.size+1≠w.heap.size+1+1+1;omega)];exact hS1) (fun hS2=>?_)
  clear hK K
  refine wpAnyH_ready (rs:=[12]) (by kernel_rfl) (by simp) ?_
  refine AllReadyH.cons rfl (fun K hK=>?_) AllReadyH.nil
  go_simp
  refine hK.out _ _ (by rw[World.cell?_setCell_far _ _ _ _ (by show w.heap.size+1+1≠w.heap.size+1+1+1;omega),World.cell?_setCell_far _ _ _ _ (by show w.heap.size+1+1≠w.heap.size+1+1+1;omega)];exact hS2) (fun hS3=>?_)
  clear hK K
  refine wpAnyH_done (by kernel_rfl) ?_ _
  refine NoPanic.normal ?_
  clear x0 x1 x2 x3 x9 y0 y1 y2 hS1 hS2 hS3
  go_wp2
  obtain⟨z0,z1,z2,z3,z4⟩:=HLA.o
  exact gx (N:=w.heap.size) rfl rfl rfl z0 z1 z2 (.inl ⟨f,k,_,L,hE.o,rfl,z3,HS.o,HLL.o,hkl.o,z4⟩)
 ·go_simp
  refine hK.out _ _ HDd.o.n3 (fun _=>?_)
  clear hK K
  refine wpAnyH_ready (rs:=[0,2]) (by kernel_rfl) (by simp) ?_
  refine AllReadyH.cons rfl (fun K hK=>?_) (AllReadyH.cons rfl (fun K hK=>?_) AllReadyH.nil)
  ·go_simp
   refine hK.out _ _ HDd.o.n3 (fun _=>?_)
   clear hK K
   refine wpAnyH_ready (rs:=[2]) (by kernel_rfl) (by simp) ?_
   refine AllReadyH.cons rfl (fun K hK=>?_) AllReadyH.nil
   go_simp
   refine(HK.o _ HDd.o).mono ?_
   rintro e w7 ⟨rfl,hb7⟩
   have HD7:=I (HDd.o.ar hb7)
   have m7:=(dn HD7.o.n0).1
   refine hK.out _ _ HD7.o.n3 (fun _=>?_)
   clear hK K hb7
   refine wpAnyH_ready (rs:=[3]) (by kernel_rfl) (by simp) ?_
   refine AllReadyH.cons rfl (fun K hK=>?_) AllReadyH.nil
   go_simp
   refine(HMd.o _).mono ?_
   rintro e w8 ⟨rfl,rfl⟩
   refine hK.out _ _ HD7.o.n3 (fun _=>?_)
   clear hK K
   have hDx:=HD7.o
   obtain⟨x0,y0⟩:=dn hDx.n0
   obtain⟨x1,y1⟩:=jn hDx.n1
   obtain⟨x2,x3,y2⟩:=bh hDx.n2
   have hla:=hDx.last
   have u1:¬w.heap.size=w.heap.size+1:=by omega
   have u2:¬w.heap.size+1=w.heap.size:=by omega
   have u3:¬w.heap.size=w.heap.size+1+1:=by omega
   have u4:¬w.heap.size+1+1=w.heap.size:=by omega
   have u5:¬w.heap.size+1=w.heap.size+1+1:=by omega
   have u6:¬w.heap.size+1+1=w.heap.size+1:=by omega
   have x9:=hDx.n3
   have HLA:=I hla
   clear hla hDx
   refine wpAnyH_ready (rs:=[10]) (by kernel_rfl) (by simp) ?_
   refine AllReadyH.cons rfl (fun K hK=>?_) AllReadyH.nil
   go_simp
   refine hK.out _ _ (by rw[World.cell?_setCell_far _ _ _ _ (by show w.heap.size≠w.heap.size+1+1+1;omega)];exact x9) (fun hS1=>?_)
   clear hK K
   refine wpAnyH_ready (rs:=[11]) (by kernel_rfl) (by simp) ?_
   refine AllReadyH.cons rfl (fun K hK=>?_) AllReadyH.nil
   go_simp
   refine hK.out _ _ (by rw[World.cell?_setCell_far _ _ _ _ (by show w.heap.size+1≠w.heap.size+1+1+1;omega)];exact hS1) (fun hS2=>?_)
   clear hK K
   refine wpAnyH_ready (rs:=[12]) (by kernel_rfl) (by simp) ?_
   refine AllReadyH.cons rfl (fun K hK=>?_) AllReadyH.nil
   go_simp
   refine hK.out _ _ (by rw[World.cell?_setCell_far _ _ _ _ (by show w.heap.size+1+1≠w.heap.size+1+1+1;omega),World.cell?_setCell_far _ _ _ _ (by show w.heap.size+1+1≠w.heap.size+1+1+1;omega)];exact hS2) (fun hS3=>?_)
   clear hK K
   refine wpAnyH_done (by kernel_rfl) ?_ _
   refine NoPanic.normal ?_
   clear x0 x1 x2 x3 x9 y0 y1 y2 hS1 hS2 hS3
   go_wp2
   obtain⟨z0,z1,z2,z3,z4⟩:=HLA.o
   exact gx (N:=w.heap.size) rfl rfl rfl z0 z1 z2 (.inl ⟨f,k,_,L,hE.o,rfl,z3,HS.o,HLL.o,hkl.o,z4⟩)
  ·go_simp
   refine(HK.o _ HDd.o).mono ?_
   rintro e w7 ⟨rfl,hb7⟩
   have HD7:=I (HDd.o.ar hb7)
   have m7:=(dn HD7.o.n0).1
   refine hK.out _ _ HD7.o.n3 (fun _=>?_)
   clear hK K hb7
   refine wpAnyH_ready (rs:=[0]) (by kernel_rfl) (by simp) ?_
   refine AllReadyH.cons rfl (fun K hK=>?_) AllReadyH.nil
   go_simp
   refine hK.out _ _ HD7.o.n3 (fun _=>?_)
   clear hK K
   refine wpAnyH_ready (rs:=[3]) (by kernel_rfl) (by simp) ?_
   refine AllReadyH.cons rfl (fun K hK=>?_) AllReadyH.nil
   go_simp
   refine(HMd.o _).mono ?_
   rintro e w8 ⟨rfl,rfl⟩
   refine hK.out _ _ HD7.o.n3 (fun _=>?_)
   clear hK K
   have hDx:=HD7.o
   obtain⟨x0,y0⟩:=dn hDx.n0
   obtain⟨x1,y1⟩:=jn hDx.n1
   obtain⟨x2,x3,y2⟩:=bh hDx.n2
   have hla:=hDx.last
   have u1:¬w.heap.size=w.heap.size+1:=by omega
   have u2:¬w.heap.size+1=w.heap.size:=by omega
   have u3:¬w.heap.size=w.heap.size+1+1:=by omega
   have u4:¬w.heap.size+1+1=w.heap.size:=by omega
   have u5:¬w.heap.size+1=w.heap.size+1+1:=by omega
   have u6:¬w.heap.size+1+1=w.heap.size+1:=by omega
   have x9:=hDx.n3
   have HLA:=I hla
   clear hla hDx
   refine wpAnyH_ready (rs:=[10]) (by kernel_rfl) (by simp) ?_
   refine AllReadyH.cons rfl (fun K hK=>?_) AllReadyH.nil
   go_simp
   refine hK.out _ _ (by rw[World.cell?_setCell_far _ _ _ _ (by show w.heap.size≠w.heap.size+1+1+1;omega)];exact x9) (fun hS1=>?_)
   clear hK K
   refine wpAnyH_ready (rs:=[11]) (by kernel_rfl) (by simp) ?_
   refine AllReadyH.cons rfl (fun K hK=>?_) AllReadyH.nil
   go_simp
   refine hK.out _ _ (by rw[World.cell?_setCell_far _ _ _ _ (by show w.heap.size+1≠w.heap.size+1+1+1;omega)];exact hS1) (fun hS2=>?_)
   clear hK K
   refine wpAnyH_ready (rs:=[12]) (by kernel_rfl) (by simp) ?_
   refine AllReadyH.cons rfl (fun K hK=>?_) AllReadyH.nil
   go_simp
   refine hK.out _ _ (by rw[World.cell?_setCell_far _ _ _ _ (by show w.heap.size+1+1≠w.heap.size+1+1+1;omega),World.cell?_setCell_far _ _ _ _ (by show w.heap.size+1+1≠w.heap.size+1+1+1;omega)];exact hS2) (fun hS3=>?_)
   clear hK K
   refine wpAnyH_done (by kernel_rfl) ?_ _
   refine NoPanic.normal ?_
   clear x0 x1 x2 x3 x9 y0 y1 y2 hS1 hS2 hS3
   go_wp2
   obtain⟨z0,z1,z2,z3,z4⟩:=HLA.o
   exact gx (N:=w.heap.size) rfl rfl rfl z0 z1 z2 (.inl ⟨f,k,_,L,hE.o,rfl,z3,HS.o,HLL.o,hkl.o,z4⟩)
variable {w w' : World} {b : Nat} {v : Value} {l : List Int} {i : Nat} {d : Int} {fo : Bool}
def lK(w:World)(D:World->Prop):Exit->Act->World->Prop
 | .panic c,a,W=>c=[{ v:=.iface 38 (.agg #[.int .i64 2,.int .i64 0]),recovered:=false }]/\D W/\a.defers=J7 w.heap.size/\a.tmps[8]? =some (.pointer (some ⟨w.heap.size,0,none⟩))/\a.tmps[9]? =some (.pointer (some ⟨w.heap.size+1,0,none⟩))/\a.tmps[10]? =some (.pointer (some ⟨w.heap.size+1+1,0,none⟩))
 |_,_,_=>False
theorem lK.back{D:World->Prop}{c:List PanicEntry}{a:Act}{dst:Nat}{u:Value}{W:World}(hd:(dst !=8&&dst !=9&&dst !=10)=true)(h:lK w D (.panic c) (a.put (some dst) u) W):lK w D (.panic c) a W:=by
 simp only[Bool.and_eq_true,bne_iff_ne,ne_eq]at hd
 obtain⟨h1,h2,h3,h4,h5,h6⟩:=h
 simp only[Act.put]at h3 h4 h5 h6
 rw[Array.getElem?_setIfInBounds_ne (by omega)]at h4 h5 h6
 exact⟨h1,h2,h3,h4,h5,h6⟩
theorem GJ(h:bJ w v l)(hT:Fo.iP w)(hpos:3<w.heap.size)(hsm:l.length<=300)(hpts:∀p∈l,0<=p/\p<=1114111)(hdia:d=1\/d=2\/d=3)(hi:i<=l.length){f:PS}{k:Nat}(hX:fl (par d fo) 21 l i 0=.ok (f,k))(hf:bC f=true):
  Calls prog 153 #[.int .i64 d,v,.int .i64 i,.bool fo] w fun e w'=>zW d fo l i w e w':=by
 have hE:Hid (ir d fo l i=.error (2,0)):=by show _=_;unfold ir;rw[hX];simp[hf]
 have hmf:∀(fn:Fn) (first cap:Array Value) (w:World),(Instr.makeFunc fn first cap).run prog w=.ok (.func fn first cap) w:=fun _ _ _ _=>rfl
 have hb0:Below w.heap.size w ((((w.alloc (mw (.slice none 0 0))).alloc (mn 0)).alloc (bm 0 0)).alloc (.cells #[v,.int .i64 i,.int .i64 d,.bool fo] 185)):=((((J _ w).alloc (U _) _).alloc (by simp) _).alloc (by simp;omega) _).alloc (by simp;omega) _
 have hBB:BB ((((w.alloc (mw (.slice none 0 0))).alloc (mn 0)).alloc (bm 0 0)).alloc (.cells #[v,.int .i64 i,.int .i64 d,.bool fo] 185)) (w.heap.size+1+1+1) v l i d fo:=
  ⟨TK.bp _ _ (by simp),h.below hb0,fun x c hl e=>by
   obtain⟨y,c',e',_,hr⟩:=h.some hl
   rw[e']at e
   cases e
   have:=World.block_lt_of_cell? _ _ (hr 0 hl)
   rw[aS]at this
   omega,hsm,hi,hpts,hdia,hT.below hb0 hpos,by omega⟩
 have hX0:=nh (d:=d) (fo:=fo) (b:=w.heap.size+1+1+1) (v:=v) (l:=l) 21 0 rfl (by omega) _ i hBB
 rw[hX]at hX0
 rw[show ((0:Nat):Int)=0 from rfl]at hX0
 obtain⟨ao,ac,hv⟩:=h.shape
 have HX:=I hX0
 have HB0:=I hb0
 have hg0:Hid (∀w1,Mv (w.heap.size+1+1+1) ((((w.alloc (mw (.slice none 0 0))).alloc (mn 0)).alloc (bm 0 0)).alloc (.cells #[v,.int .i64 i,.int .i64 d,.bool fo] 185)) w1->w1.heap[w.heap.size]? =some (mw (.slice none 0 0))/\w1.heap[w.heap.size+1]? =some (mn 0)/\w1.heap[w.heap.size+1+1]? =some (bm 0 0)/\Below w.heap.size w w1):=by
  intro w1 hm
  refine⟨TK.Mv.aC hm (TK.ba (TK.ba (TK.ba (TK.aj _ _)))) (by omega),TK.Mv.aC hm (TK.ba (TK.ba (TK.bp _ _ (by simp)))) (by omega),TK.Mv.aC hm (TK.ba (TK.bp _ _ (by simp))) (by omega),?_⟩
  exact hb0.trans ((hm.below (by simp)).mono (by omega))
 have hsz0:Hid (((((w.alloc (mw (.slice none 0 0))).alloc (mn 0)).alloc (bm 0 0)).alloc (.cells #[v,.int .i64 i,.int .i64 d,.bool fo] 185)).heap.size=w.heap.size+1+1+1+1):=by show _=_;simp
 clear hb0 hBB h hT hsm hpts hdia hi hX0
 obtain⟨n,hn⟩:∃n,n=l.length:=⟨_,rfl⟩
 rw[<- hn]at hv
 have HN:=I hn
 rw[hv]at HX HB0 hg0 hsz0 |-
 clear hn hv
 simp only[mw,mn,bm]at HX HB0 hg0 hsz0
 go_enter_defers func153,ntmps153
 go_wp2_with fail
 refine HX.o.mono ?_
 rintro e w1 (⟨f',k',sv,L,hp,rfl,ho,hs,hr,hik,hm⟩|⟨z',a',hp,rfl,hm⟩)
 case inr=>cases hp
 obtain⟨rfl,rfl⟩:f=f'/\k=k':=by cases hp;exact⟨rfl,rfl⟩
 have hfl:=eW hs
 rw[hf]at hfl
 have hL:400<L.length:=of_decide_eq_true hfl.symm
 obtain⟨g0,g1,g2,g3⟩:=hg0.o w1 hm
 have hkl:=I hr.at'
 have hc1:=hr.cells.2.1
 have hw1s:w.heap.size+3<w1.heap.size:=by have:=hr.lt;omega
 rw[hsz0.o]at ho
 have hDo:Hid (rB w (w1.setCell ⟨w.heap.size,0,none⟩ sv) sv k L):=by
  have e1:w.heap.size≠w.heap.size+1:=by omega
  have e2:w.heap.size≠w.heap.size+1+1:=by omega
  refine⟨zl g0,cQ g1 e1.symm _ _,cQ g2 e2.symm _ _,?_,by simpa[World.setCell]using hw1s,?_,g3.setCell (p:=⟨w.heap.size,0,none⟩) (U _) _⟩
  ·unfold World.cell? at hc1 |-
   rw[Below.heap_setCell _ _ _ _ (by show w.heap.size+1+1+1≠w.heap.size;omega)]
   exact hc1
  ·obtain ⟨h1,h2⟩:=(show w1.ownsRow _ 76 2 sv L.length (aN L)from ho)
   refine⟨h1,?_⟩
   rcases h2 with h|⟨g,cap,cur,rfl,hg,hh,hn',hm',hs',ht⟩
   ·exact .inl h
   ·exact .inr ⟨g,cap,cur,rfl,hg,by rw[Below.heap_setCell _ _ _ _ (by show g≠w.heap.size;omega)];exact hh,hn',hm',hs',ht⟩
 obtain⟨m0,f0⟩:=dn (sv:=.slice none 0 0) g0
 have HS:=I hs
 obtain⟨so,sc,hsv⟩:=ho.shape
 obtain⟨ln,hln⟩:∃ln,ln=L.length:=⟨_,rfl⟩
 rw[<- hln]at hsv
 have HLN:=I hln
 have HSV:=I hsv
 have HLL:=I hL
 rw[hsv]at hDo |-
 clear hp ho hs hr hik hm hX hf hfl g0 g1 g2 g3 hc1 hw1s HX HB0 hg0 hsz0 hsv hln hL
 go_upto_region 4 with fail
 obtain⟨W,hW⟩:∃W,W=w1.setCell ⟨w.heap.size,0,none⟩ (.slice so ln sc):=⟨_,rfl⟩
 rw[<- hW]at hDo |-
 clear hW m0 f0
 have HK:=I (fun W' (hD:rB w W' (.slice so ln sc) k L)=>dA _ L W' hD.own.reads)
 rw[mH HS.o.1,if_pos HLL.o]at HK
 have HMd:=I (fun W'=>lk so ln sc 2 (by decide) W')
 simp only[aw]at HMd
 refine Code.wp_mono (Q:=lK w (rB w · (.slice so ln sc) k L)) ?_ ?_
 ·rintro e a W' hp
  cases e with
  |panic c=>
   obtain⟨rfl,hD,hdf,t8,t9,t10⟩:=hp
   obtain⟨tmps,defers⟩:=a
   simp only at hdf t8 t9 t10
   subst hdf
   exact sb (N:=w.heap.size) t8 t9 t10 hD.n0 hD.n1 hD.n2 (fun W'' hb=>.inr ⟨2,0,hE.o,rfl,hD.G8.trans hb⟩)
  |_=>exact hp.elim
 have hDd:=hDo.o.ar (W':=W.drew) ⟨rfl,rfl,rfl,U _,fun _ _=>rfl⟩
 have HDd:=I hDd
 have HSs:=I hDd.n3
 obtain⟨m0,f0⟩:=dn hDd.n0
 refine wp_region_held (S:=fun w'=>w'.cell? ⟨w.heap.size+1+1+1,1,none⟩=some (.int .i64 k)) (by kernel_rfl) ?_
 change wpAnyH _ _ _ _ _ _ _ _ (World.drew _)
 clear hDd
 refine wpAnyH_take (i:=4) (v:=.pointer (some ⟨w.heap.size+1+1+1,0,none⟩)) rfl (by kernel_rfl) (by kernel_rfl) (by kernel_rfl) (fun _ _ _ h=>lK.back (dst:=26) (by decide) h) (Or.inl ⟨by kernel_rfl,fun w' hS=>?_⟩) HSs.o ?_
 ·go_simp
 refine wpAnyH_take (i:=5) (v:=.pointer (some ⟨w.heap.size+1+1+1,0,none⟩)) rfl (by kernel_rfl) (by kernel_rfl) (by kernel_rfl) (fun _ _ _ h=>lK.back (dst:=27) (by decide) h) (Or.inl ⟨by kernel_rfl,fun w' hS=>?_⟩) HSs.o ?_
 ·go_simp
 refine wpAnyH_take (i:=6) (v:=.pointer (some ⟨w.heap.size+1+1+1,0,none⟩)) rfl (by kernel_rfl) (by kernel_rfl) (by kernel_rfl) (fun _ _ _ h=>lK.back (dst:=28) (by decide) h) (Or.inl ⟨by kernel_rfl,fun w' hS=>?_⟩) HSs.o ?_
 ·go_simp
 refine wpAnyH_take (i:=7) (v:=.pointer (some ⟨w.heap.size+1+1+1,1,none⟩)) rfl (by kernel_rfl) (by kernel_rfl) (by kernel_rfl) (fun _ _ _ h=>lK.back (dst:=29) (by decide) h) (Or.inl ⟨by kernel_rfl,fun w' hS=>?_⟩) HSs.o ?_
 ·go_simp
 refine wpAnyH_take (i:=8) (v:=.int .i64 k) rfl (by kernel_rfl) (by kernel_rfl) (by kernel_rfl) (fun _ _ _ h=>lK.back (dst:=30) (by decide) h) (Or.inl ⟨by kernel_rfl,fun w' hS=>?_⟩) HSs.o ?_
 ·go_simp
 refine wpAnyH_take (i:=9) (v:=.agg #[.int .i64 0,.int .i64 0]) rfl (by kernel_rfl) (by kernel_rfl) (by kernel_rfl) (fun _ _ _ h=>lK.back (dst:=31) (by decide) h) (Or.inl ⟨by kernel_rfl,fun w' hS=>?_⟩) HSs.o ?_
 ·go_simp
 refine wpAnyH_ready (rs:=[0,1]) (by kernel_rfl) (by simp) ?_
 refine AllReadyH.cons rfl (fun K hK=>?_) (AllReadyH.cons rfl (fun K hK=>?_) AllReadyH.nil)
 ·go_simp
  refine hK.out _ _ HDd.o.n3 (fun _=>?_)
  clear hK K
  refine wpAnyH_ready (rs:=[1]) (by kernel_rfl) (by simp) ?_
  refine AllReadyH.cons rfl (fun K hK=>?_) AllReadyH.nil
  go_simp
  refine hK.out _ _ HDd.o.n3 (fun _=>?_)
  clear hK K
  refine wpAnyH_ready (rs:=[2]) (by kernel_rfl) (by simp) ?_
  refine AllReadyH.cons rfl (fun K hK=>?_) AllReadyH.nil
  go_simp
  refine(HK.o _ HDd.o).mono ?_
  rintro e w7 ⟨rfl,hb7⟩
  have HD7:=I (HDd.o.ar hb7)
  have m7:=(dn HD7.o.n0).1
  refine hK.out _ _ HD7.o.n3 (fun _=>?_)
  clear hK K hb7
  refine wpAnyH_ready (rs:=[3]) (by kernel_rfl) (by simp) ?_
  refine AllReadyH.cons rfl (fun K hK=>?_) AllReadyH.nil
  go_simp
  refine(HMd.o _).mono ?_
  rintro e w8 ⟨rfl,rfl⟩
  exact⟨rfl,HD7.o,rfl,rfl,rfl,rfl⟩
 ·go_simp
  refine hK.out _ _ HDd.o.n3 (fun _=>?_)
  clear hK K
  refine wpAnyH_ready (rs:=[0,2]) (by kernel_rfl) (by simp) ?_
  refine AllReadyH.cons rfl (fun K hK=>?_) (AllReadyH.cons rfl (fun K hK=>?_) AllReadyH.nil)
  ·go_simp
   refine hK.out _ _ HDd.o.n3 (fun _=>?_)
   clear hK K
   refine wpAnyH_ready (rs:=[2]) (by kernel_rfl) (by simp) ?_
   refine AllReadyH.cons rfl (fun K hK=>?_) AllReadyH.nil
   go_simp
   refine(HK.o _ HDd.o).mono ?_
   rintro e w7 ⟨rfl,hb7⟩
   have HD7:=I (HDd.o.ar hb7)
   have m7:=(dn HD7.o.n0).1
   refine hK.out _ _ HD7.o.n3 (fun _=>?_)
   clear hK K hb7
   refine wpAnyH_ready (rs:=[3]) (by kernel_rfl) (by simp) ?_
   refine AllReadyH.cons rfl (fun K hK=>?_) AllReadyH.nil
   go_simp
   refine(HMd.o _).mono ?_
   rintro e w8 ⟨rfl,rfl⟩
   exact⟨rfl,HD7.o,rfl,rfl,rfl,rfl⟩
  ·go_simp
   refine(HK.o _ HDd.o).mono ?_
   rintro e w7 ⟨rfl,hb7⟩
   have HD7:=I (HDd.o.ar hb7)
   have m7:=(dn HD7.o.n0).1
   refine hK.out _ _ HD7.o.n3 (fun _=>?_)
   clear hK K hb7
   refine wpAnyH_ready (rs:=[0]) (by kernel_rfl) (by simp) ?_
   refine AllReadyH.cons rfl (fun K hK=>?_) AllReadyH.nil
   go_simp
   refine hK.out _ _ HD7.o.n3 (fun _=>?_)
   clear hK K
   refine wpAnyH_ready (rs:=[3]) (by kernel_rfl) (by simp) ?_
   refine AllReadyH.cons rfl (fun K hK=>?_) AllReadyH.nil
   go_simp
   refine(HMd.o _).mono ?_
   rintro e w8 ⟨rfl,rfl⟩
   exact⟨rfl,HD7.o,rfl,rfl,rfl,rfl⟩
theorem qQ(h:bJ w v l)(hT:Fo.iP w)(hpos:3<w.heap.size)(hsm:l.length<=300)(hpts:∀p∈l,0<=p/\p<=1114111)(hdia:d=1\/d=2\/d=3)(hi:i<=l.length):Calls prog 153 #[.int .i64 d,v,.int .i64 i,.bool fo] w fun e w'=>zW d fo l i w e w':=by
 cases hX:fl (par d fo) 21 l i 0 with
 |error e=>obtain⟨z,c⟩:=e;exact GZ h hT hpos hsm hpts hdia hi hX
 |ok x=>
  obtain⟨f,k⟩:=x
  cases hf:bC f with
  |false=>exact FH h hT hpos hsm hpts hdia hi hX hf
  |true=>exact GJ h hT hpos hsm hpts hdia hi hX hf
variable {w w' : World} {b : Nat} {v : Value} {l : List Int} {i : Nat} {d : Int} {fo : Bool}
noncomputable def dj(d:Int)(fo:Bool)(l:List Int)(a:Int):Except BE (PS×Nat):=if TK.cq d l≠0 then .error (TK.cq d l,0)else if a<0\/(l.length:Int)<a then .error (3,0)else ir d fo l a.toNat
def I6(R:Except BE (PS×Nat))(l:List Int)(w:World)(e:Ending)(w':World):Prop:=
 (∃f k sv L,R=.ok (f,k)/\e=.returned (.tuple #[sv,.int .i64 (k:Nat),.agg #[.int .i64 0,.int .i64 0]])/\OR w' w.heap.size sv L/\bg f L/\L.length<=400/\k<=l.length/\Below w.heap.size w w')\/
 (∃z c:Int,R=.error (z,c)/\z≠0/\e=.returned (.tuple #[.slice none 0 0,.int .i64 0,.agg #[.int .i64 z,.int .i64 c]])/\Below w.heap.size w w')
theorem eI{tmps:Array Value}{W:World}{N:Nat}{v1:Value}{k e a:Int}{R:Ending->World->Prop}(h8:tmps[8]? =some v1)(h9:tmps[9]? =some (.int .i64 k))(h10:tmps[10]? =some (.pointer (some ⟨N,0,none⟩)))(q0:W.heap[N]? =some (bm e a))(hF:R (.returned (.tuple #[v1,.int .i64 k,.agg #[.int .i64 e,.int .i64 a]])) W):
  bodyPost prog Tryz.f140 R Exit.ret { tmps:=tmps,defers:=[] } W:=by
 obtain⟨c0,c1,_⟩:=bh q0
 refine bodyPost_ret (v:=.tuple #[v1,.int .i64 k,.agg #[.int .i64 e,.int .i64 a]]) ?_ rfl hF
 simp[results,results140,go_sem,h8,h9,h10,c0,c1]
theorem zB{f:PS}{z a:Int}(h:mr (par d fo) f=.error (z,a)):z≠0:=by
 unfold mr at h;split at h
 ·cases h;decide
 ·cases h
theorem EU{f g:PS}{z a:Int}(h:lO (par d fo) f g=.error (z,a)):z≠0:=by
 unfold lO at h;split at h
 ·cases h;decide
 ·cases h
theorem EK{f:PS}{z a:Int}(h:mY (par d fo) f=.error (z,a)):z≠0:=by
 unfold mY at h;split at h
 ·cases h;decide
 ·cases h
theorem sQ{s:ByteArray}{no:Bool}{c z a:Int}(h:fB (par d fo) s no c=.error (z,a)):z≠0:=by
 unfold fB at h
 simp only[par]at h
 by_cases hs:s∈names
 ·rw [if_pos hs]at h
  simp only at h
  split at h
  ·exact zB (d:=d) (fo:=fo) h
  ·cases h
 ·rw [if_neg hs]at h
  cases h;decide
theorem wx{z a:Int}(h:dJ (par d fo) l i=.error (z,a)):z≠0:=by
 unfold dJ at h
 split at h
 ·cases h;decide
 ·split at h
  ·simp only[par]at h
   cases hn:TK.aQ 1 l i with
   |error e=>
    rw[hn]at h
    simp only[jU]at h
    cases h
    have:=TK.qK hn
    unfold TK.oO at this
    omega
   |ok x=>
    rw[hn]at h
    obtain⟨t,k⟩:=x
    simp only[jU]at h
    split at h
    ·rename_i heq
     split at heq
     ·cases heq
     ·split at heq
      ·cases heq
      ·cases heq;cases h;decide
    ·cases h
  ·cases h
theorem zi{z a:Int}(h:dT (par d fo) l i=.error (z,a)):z≠0:=by
 unfold dT at h
 simp only at h
 generalize (if ((par d fo).pG&&aX l (i+2) [94])=true then i+3 else i+2)=j at h
 split at h
 ·cases h;decide
 ·split at h
  ·rename_i e heq
   cases h
   exact sQ heq
  ·cases h
theorem Ha{c z a:Int}(h:iD (par d fo) l i c=.error (z,a)):z≠0:=by
 unfold iD at h
 split at h
 ·cases h;decide
 ·split at h
  ·rename_i e heq;cases h;exact wx heq
  ·cases h;decide
  ·split at h
   ·cases h;decide
   ·cases h
def rM(rec:Rec):Prop:=∀l i deep z a,rec l i deep=.error (z,a)->z≠0
theorem EZ{rec:Rec}(hr:rM rec){deep:Nat}{z a:Int}(h:fi (par d fo) rec l i deep=.error (z,a)):z≠0:=by
 unfold fi at h
 split at h
 ·exact zi h
 ·split at h
  ·split at h
   ·cases h;decide
   ·exact hr _ _ _ _ _ h
  ·split at h
   ·rename_i e heq;cases h;exact wx heq
   ·split at h
    ·rename_i e heq;cases h;exact sQ heq
    ·cases h
   ·split at h
    ·split at h
     ·rename_i e heq;cases h;exact Ha heq
     ·cases h
    ·cases h
theorem tc{rec:Rec}(hr:rM rec){first deep:Nat}{z a:Int}:∀(n i:Nat) (acc:PS),eN (par d fo) rec l first deep n i acc=.error (z,a)->z≠0
 |0,i,acc,h=>by cases h
 |n+1,i,acc,h=>by
  unfold eN at h
  split at h
  ·cases h
  ·split at h
   ·rename_i e heq;cases h;exact EZ hr heq
   ·exact tc hr n _ _ h
theorem kR{rec:Rec}(hr:rM rec){first deep:Nat}{z a:Int}(h:eS (par d fo) rec l first deep i=.error (z,a)):z≠0:=by
 unfold eS at h
 split at h
 ·rename_i e heq;cases h;exact tc hr _ _ _ heq
 ·split at h
  ·cases h;decide
  ·split at h
   ·split at h
    ·rename_i e heq;cases h;exact EK heq
    ·cases h
   ·cases h
theorem wj{rec:Rec}(hr:rM rec){first deep:Nat}{z a:Int}:∀(n i:Nat) (acc:PS),fA (par d fo) rec l first deep n i acc=.error (z,a)->z≠0
 |0,i,acc,h=>by cases h
 |n+1,i,acc,h=>by
  unfold fA at h
  split at h
  ·split at h
   ·rename_i e heq;cases h;exact kR hr heq
   ·split at h
    ·rename_i e heq;cases h;exact EU heq
    ·exact wj hr n _ _ h
  ·cases h
theorem xj{rec:Rec}(hr:rM rec){deep:Nat}{z a:Int}(h:gv (par d fo) rec l i deep=.error (z,a)):z≠0:=by
 unfold gv at h
 split at h
 ·rename_i e heq;cases h;exact kR hr heq
 ·split at h
  ·rename_i e heq;cases h;exact wj hr _ _ _ heq
  ·cases h
theorem ra:∀n,rM (fl (par d fo) n)
 |0=>fun l i deep z a h=>by cases h;decide
 |n+1=>fun l i deep z a h=>by
  unfold fl iW at h
  split at h
  ·split at h
   ·rename_i e heq;cases h;exact xj (ra n) heq
   ·split at h
    ·rename_i e heq;cases h;exact zB heq
    ·cases h
  ·exact xj (ra n) h
theorem Ee{z a:Int}(h:ir d fo l i=.error (z,a)):z≠0:=by
 unfold ir at h
 split at h
 ·rename_i e heq;cases h;exact ra 21 _ _ _ _ _ heq
 ·split at h
  ·cases h;decide
  ·cases h
theorem sT(d a:Int)(v:Value)(l:List Int)(fo:Bool)(w:World)(h:bJ w v l)(hT:Fo.iP w)(hpos:3<w.heap.size):Calls prog 140 #[.int .i64 d,v,.int .i64 a,.bool fo] w fun e w'=>I6 (dj d fo l a) l w e w':=by
 have hb0:Below w.heap.size w (w.alloc (bm 0 0)):=(J _ w).alloc (U _) _
 have HC:=I (TK.fU d v l _ (h.below hb0))
 obtain⟨ao,c,hv⟩:=h.shape
 by_cases hz:TK.cq d l=0
 ·obtain ⟨hd,hsm,hpts⟩:=TK.oW hz
  rw[hz]at HC
  by_cases ha:a<0
  ·have hE:Hid (dj d fo l a=.error (3,0)):=by show _=_;unfold dj;rw[if_neg (by simp[hz]),if_pos (Or.inl ha)]
   simp only[bm]at HC
   have HB:=I hb0
   rw[hv]at HC |-
   clear h hv hz hpts hb0
   go_enter func140,ntmps140
   go_wp2_with fail
   refine HC.o.mono ?_
   rintro e w' ⟨rfl,rfl⟩
   go_wp21
   go_wp21
   exact eI (N:=w.heap.size) (e:=3) (a:=0) rfl rfl rfl (TK.aj _ _) (.inr ⟨3,0,hE.o,by decide,rfl,(J _ w).alloc (U _) _⟩)
  ·by_cases hb:(l.length:Int)<a
   ·have hE:Hid (dj d fo l a=.error (3,0)):=by show _=_;unfold dj;rw[if_neg (by simp[hz]),if_pos (Or.inr hb)]
    simp only[bm]at HC
    have HB:=I hb0
    rw[hv]at HC |-
    clear h hv hz hpts hb0
    go_enter func140,ntmps140
    go_wp2_with fail
    refine HC.o.mono ?_
    rintro e w' ⟨rfl,rfl⟩
    go_wp21
    go_wp21
    exact eI (N:=w.heap.size) (e:=3) (a:=0) rfl rfl rfl (TK.aj _ _) (.inr ⟨3,0,hE.o,by decide,rfl,(J _ w).alloc (U _) _⟩)
   ·obtain ⟨i,rfl⟩:∃i:Nat,a=i:=⟨a.toNat,by omega⟩
    have hE:Hid (dj d fo l (i:Int)=ir d fo l i):=by show _=_;unfold dj;rw[if_neg (by simp[hz]),if_neg (by omega)];simp
    have HR:=I (qQ (d:=d) (fo:=fo) (i:=i) (h.below hb0) (hT.below hb0 hpos) (by simp;omega) hsm hpts hd (by omega))
    have hli:¬((l.length:Int)<(i:Int)):=by omega
    have hli2:(i:Int)<=(l.length:Int):=by omega
    simp only[bm]at HC HR
    have HB:=I hb0
    obtain⟨n,hn⟩:∃n,n=l.length:=⟨_,rfl⟩
    rw[<- hn]at hv hli hli2
    rw[hv]at HC HR |-
    clear h hv hz hpts hb0 ha hb hn hT
    go_enter func140,ntmps140
    go_wp2_with fail
    refine HC.o.mono ?_
    rintro e w' ⟨rfl,rfl⟩
    go_wp2_with fail
    refine HR.o.mono ?_
    rintro e w2 (⟨f,k,sv,L,hR,rfl,ho,hs,hL,hkl,hb2⟩|⟨z,c',hR,rfl,hb2⟩)
    ·have hN:w2.heap[w.heap.size]? =some (bm 0 0):=by rw[hb2.block _ (by simp)];exact TK.aj _ _
     obtain⟨m0,m1,fr0⟩:=bh hN
     have HE:=I (hE.o.trans hR)
     have HB2:=I (HB.o.trans (hb2.mono HB.o.size))
     have HO:Hid (OR ((w2.setCell ⟨w.heap.size,0,none⟩ (.int .i64 0)).setCell ⟨w.heap.size,1,none⟩ (.int .i64 0)) w.heap.size sv L):=by
      obtain⟨h1,h2⟩:=(show w2.ownsRow _ 76 2 sv L.length (aN L)from ho)
      refine⟨h1,?_⟩
      rcases h2 with h|⟨g,cap,cur,rfl,hg,hh,hn',hm',hs',ht⟩
      ·exact .inl h
      ·have hg':w.heap.size+1<=g:=by simpa using hg
       exact .inr ⟨g,cap,cur,rfl,by omega,by rw[Below.heap_setCell _ _ _ _ (by show g≠w.heap.size;omega),Below.heap_setCell _ _ _ _ (by show g≠w.heap.size;omega)];exact hh,hn',hm',hs',ht⟩
     have HS:=I hs
     have HL:=I hL
     have HKL:=I hkl
     have HN:=I hN
     obtain⟨so,sc,hsv⟩:=ho.shape
     obtain⟨ln,hln⟩:∃ln,ln=L.length:=⟨_,rfl⟩
     rw[<- hln]at hsv
     rw[hsv]at HO |-
     clear hb2 hR hE ho hs hL hkl hsv hln hN HR HC
     go_wp21
     exact eI (N:=w.heap.size) (e:=0) (a:=0) rfl rfl rfl (gZ HN.o) (.inl ⟨f,k,_,L,HE.o,rfl,HO.o,HS.o,HL.o,HKL.o,(HB2.o.setCell (p:=⟨w.heap.size,0,none⟩) (U _) _).setCell (p:=⟨w.heap.size,1,none⟩) (U _) _⟩)
    ·have hN:w2.heap[w.heap.size]? =some (bm 0 0):=by rw[hb2.block _ (by simp)];exact TK.aj _ _
     obtain⟨m0,m1,fr0⟩:=bh hN
     have HE:=I (hE.o.trans hR)
     have HZ:=I (Ee hR)
     have HB2:=I (HB.o.trans (hb2.mono HB.o.size))
     have HN:=I hN
     clear hb2 hR hE hN HR HC
     go_wp21
     exact eI (N:=w.heap.size) (e:=z) (a:=c') rfl rfl rfl (gZ HN.o) (.inr ⟨z,c',HE.o,HZ.o,rfl,(HB2.o.setCell (p:=⟨w.heap.size,0,none⟩) (U _) _).setCell (p:=⟨w.heap.size,1,none⟩) (U _) _⟩)
 ·have hE:Hid (dj d fo l a=.error (TK.cq d l,0)):=by show _=_;unfold dj;rw[if_pos hz]
  simp only[bm]at HC
  have HB:=I hb0
  have HZ:=I hz
  obtain⟨z,hzz⟩:∃z,z=TK.cq d l:=⟨_,rfl⟩
  rw[<- hzz]at HC hE hz HZ
  rw[hv]at HC |-
  have hzb:(z !=0)=true:=by simpa using hz
  clear h hv hb0 hzz hz
  go_enter func140,ntmps140
  go_wp2_with fail
  refine HC.o.mono ?_
  rintro e w' ⟨rfl,rfl⟩
  go_wp21
  go_wp21
  exact eI (N:=w.heap.size) (e:=z) (a:=0) rfl rfl rfl (TK.aj _ _) (.inr ⟨z,0,hE.o,HZ.o,rfl,(J _ w).alloc (U _) _⟩)
end Go.Proofs.YtklbbbldalmnbaaGreatDoor.Br
