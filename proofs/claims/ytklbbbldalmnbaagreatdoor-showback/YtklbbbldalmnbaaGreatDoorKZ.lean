import Derived.Test.YtklbbbldalmnbaaGreatDoorKX
import Derived.Deep.RegionHeld3
set_option maxHeartbeats 8000000
set_option linter.unusedVariables false
set_option maxRecDepth 100000
open Go.Proofs.Tryz
namespace Go.Proofs.YtklbbbldalmnbaaGreatDoor.Br
open Go.RowKit
open TK (Mv bJ bU bE aS)
variable {w w' : World} {b : Nat} {v : Value} {l : List Int} {i : Nat} {d : Int} {fo : Bool}
theorem xR(h:BB w b v l i d fo)(hi:i<l.length)(hd:(d==1)=true)(h92:aX l i [92]=true){t:TK.Tok}{k:Nat}(hRR:TK.aQ 1 l i=.ok (t,k))(hk:t.kind=4):Calls prog 220 #[.pointer (some ⟨b,0,none⟩)] w fun e w'=>ru (dJ (par d fo) l i) b v l i d fo w e w':=by
 have hE:=I (mO (d:=d) (fo:=fo) hi (by rw[hd,h92];rfl))
 have hd1:d=1:=by simpa using hd
 have hbs:=h.lt
 have HBS:=I hbs
 have hsm:=h.small
 have hE2:Hid (dJ (par d fo) l i=.ok (.cls t.text t.neg,k)):=by show _=_;rw[hE.o,hRR];simp[jU,hk]
 have HIK:=I (TK.nB hRR)
 have HK1:=I hk
 have q1:(t.kind !=1)=true:=by simp[hk]
 have q2:(t.kind !=4)=false:=by simp[hk]
 have h0:=h.alloc (TK.aq {})
 have HN:Hid (Calls prog 104 #[.pointer (some ⟨b,0,none⟩)] (w.alloc (TK.aq {})) fun e w'=>e=.returned (.bool false)/\BB w' b v l i d fo/\Mv b w w'/\w'.heap[w.heap.size]? =some (TK.aq {})):=by
  have:=eE h0
  rw[show decide (l.length<=i)=false by simpa using hi]at this
  exact this.mono fun e w' ⟨h1,q,h2⟩=>⟨h1,by rw[h2];exact h0.drewN q,by rw[h2];exact((Mv.refl b w).alloc _).drewN q,by rw[h2];exact TK.aj _ _⟩
 have hpe:TK.fx d l i=TK.aQ 1 l i:=by
  unfold TK.fx
  have:TK.cq d l=0:=by
   unfold TK.cq
   rw[if_neg (by omega),if_neg (by omega),if_pos (List.all_eq_true.2 fun p hp=>by have:=h.dL p hp;simp[TK.eA];omega)]
  rw[if_neg (by simp[this]),if_neg (by omega),hd1]
  simp
 have HX:Hid (∀W,BB W b v l i d fo->∀Wc,Below W.heap.size W Wc->Calls prog 65 #[.int .i64 d,v,.int .i64 i] Wc fun e w2=>e=.returned (.tuple #[TK.aZ t,.int .i64 (k:Nat),.int .i64 0])/\Below W.heap.size W w2/\Below Wc.heap.size Wc w2/\w2.cell? ⟨b,0,none⟩=some v/\w2.cell? ⟨b,1,none⟩=some (.int .i64 i)/\w2.cell? ⟨b,2,none⟩=some (.int .i64 d)/\k<=l.length):=by
  intro W hW Wc hWc
  have:=TK.im d (i:Int) v l Wc (hW.ar hWc).pat
  rw[hpe]at this
  refine this.mono ?_
  rintro e w2 (⟨t',k',hR,he,hkl,hb⟩|⟨z',hR,he,hb⟩)
  ·have hbw:=hWc.trans (hb.mono hWc.size)
   obtain⟨c0,c1,c2,c3,f1⟩:=(hW.ar hbw).cells
   rw[hRR]at hR
   cases hR
   exact⟨he,hbw,hb,c0,c1,c2,hkl⟩
  ·have hbw:=hWc.trans (hb.mono hWc.size)
   obtain⟨c0,c1,c2,c3,f1⟩:=(hW.ar hbw).cells
   rw[hRR]at hR
   cases hR
 have HPO:=I (fun t k=>ky (t:=t) (k:=k) h.dL h92)
 have HXL:=I h.GS
 have HD0:=I hd
 have HI:Hid (∀w1,BB w1 b v l i d fo->Calls prog 124 #[.pointer (some ⟨b,0,none⟩),.slice (some ⟨w1.heap.size,0,none⟩) 1 1] (w1.alloc (.cells #[.int .i64 92] 3)) fun e w'=>e=.returned (.bool true)/\Below w1.heap.size w1 w'):=fun w1 h1=>by
  have:=Hu h1 92
  rw[h92]at this
  exact this
 simp only[TK.aq]at HN
 clear h h0 h92 hd hpe hd1 HPO hRR hk
 go_enter func220,ntmps220
 go_wp2_with fail
 refine HN.o.mono ?_
 rintro e w1 ⟨rfl,hr1,hm1,hN1⟩
 have HR1:=I hr1
 have HM1:=I hm1
 have HN1:=I hN1
 clear hr1 hm1 hN1 HN
 go_wp2_with fail
 refine(dx HR1.o HD0.o).mono ?_
 rintro e w1' ⟨rfl,rfl⟩
 go_wp2_with fail
 refine(HI.o w1 HR1.o).mono ?_
 rintro e W ⟨rfl,hbW⟩
 go_upto_region 7 with fail
 have hr:=HR1.o.ar hbW
 have hm:=HM1.o.trans (Mv.ae hbW)
 have hN:W.heap[w.heap.size]? =some (TK.aq {}):=by rw[hbW.block _ (lt_of_block HN1.o)];exact HN1.o
 clear hbW HI HR1 HM1 HN1 HD0
 have HR:=I hr
 have HM:=I hm
 have HN:=I hN
 have HD:=I (HX.o W hr)
 obtain⟨c0,c1,c2,c3,f1⟩:=hr.cells
 obtain⟨ao,c,hv⟩:=hr.pat.shape
 obtain⟨n,hn⟩:∃n,n=l.length:=⟨_,rfl⟩
 rw[<- hn]at hv hi hsm
 have HV:=I hv
 rw[hv]at c0 HD
 have HNN:=I hn
 clear hr hm hN hv HX hn
 simp only[TK.aZ]at HD
 have HS:Hid (Below W.heap.size W W.drew):=⟨rfl,rfl,rfl,U _,fun _ _=>rfl⟩
 have HCl:Hid (∀w',Below W.heap.size W w'->w'.cell? ⟨b,0,none⟩=some (.slice ao n c)/\w'.cell? ⟨b,1,none⟩=some (.int .i64 i)/\w'.cell? ⟨b,2,none⟩=some (.int .i64 d)):=fun w' hS=>by
  obtain⟨y0,y1,y2,y3,y4⟩:=(HR.o.ar hS).cells
  rw[HV.o]at y0
  exact⟨y0,y1,y2⟩
 clear c0 c1 c2 c3 f1
 refine wp_region_held (S:=fun w'=>Below W.heap.size W w') (by kernel_rfl) ?_
 change wpAnyH _ _ _ _ _ _ _ _ (World.drew _)
 refine wpAnyH_take (i:=0) (v:=.pointer (some ⟨b,0,none⟩)) rfl (by kernel_rfl) (by kernel_rfl) (by kernel_rfl) (fun _ _ _ h=>h) (Or.inl ⟨by kernel_rfl,fun w' hS=>?_⟩) HS.o ?_
 ·go_simp
 refine wpAnyH_take (i:=1) (v:=.pointer (some ⟨b,0,none⟩)) rfl (by kernel_rfl) (by kernel_rfl) (by kernel_rfl) (fun _ _ _ h=>h) (Or.inl ⟨by kernel_rfl,fun w' hS=>?_⟩) HS.o ?_
 ·go_simp
 refine wpAnyH_take (i:=2) (v:=.pointer (some ⟨b,2,none⟩)) rfl (by kernel_rfl) (by kernel_rfl) (by kernel_rfl) (fun _ _ _ h=>h) (Or.inl ⟨by kernel_rfl,fun w' hS=>?_⟩) HS.o ?_
 ·go_simp
 refine wpAnyH_take (i:=3) (v:=.int .i64 d) rfl (by kernel_rfl) (by kernel_rfl) (by kernel_rfl) (fun _ _ _ h=>h) (Or.inl ⟨by kernel_rfl,fun w' hS=>?_⟩) HS.o ?_
 ·(obtain⟨y0,y1,y2⟩:=HCl.o w' hS;go_simp)
 refine wpAnyH_take (i:=4) (v:=.pointer (some ⟨b,0,none⟩)) rfl (by kernel_rfl) (by kernel_rfl) (by kernel_rfl) (fun _ _ _ h=>h) (Or.inl ⟨by kernel_rfl,fun w' hS=>?_⟩) HS.o ?_
 ·go_simp
 refine wpAnyH_take (i:=5) (v:=.pointer (some ⟨b,0,none⟩)) rfl (by kernel_rfl) (by kernel_rfl) (by kernel_rfl) (fun _ _ _ h=>h) (Or.inl ⟨by kernel_rfl,fun w' hS=>?_⟩) HS.o ?_
 ·go_simp
 refine wpAnyH_take (i:=6) (v:=.pointer (some ⟨b,0,none⟩)) rfl (by kernel_rfl) (by kernel_rfl) (by kernel_rfl) (fun _ _ _ h=>h) (Or.inl ⟨by kernel_rfl,fun w' hS=>?_⟩) HS.o ?_
 ·go_simp
 refine wpAnyH_take (i:=7) (v:=.pointer (some ⟨b,0,none⟩)) rfl (by kernel_rfl) (by kernel_rfl) (by kernel_rfl) (fun _ _ _ h=>h) (Or.inl ⟨by kernel_rfl,fun w' hS=>?_⟩) HS.o ?_
 ·go_simp
 refine wpAnyH_take (i:=8) (v:=.slice ao n c) rfl (by kernel_rfl) (by kernel_rfl) (by kernel_rfl) (fun _ _ _ h=>h) (Or.inl ⟨by kernel_rfl,fun w' hS=>?_⟩) HS.o ?_
 ·(obtain⟨y0,y1,y2⟩:=HCl.o w' hS;go_simp)
 refine wpAnyH_take (i:=9) (v:=.pointer (some ⟨b,0,none⟩)) rfl (by kernel_rfl) (by kernel_rfl) (by kernel_rfl) (fun _ _ _ h=>h) (Or.inl ⟨by kernel_rfl,fun w' hS=>?_⟩) HS.o ?_
 ·go_simp
 refine wpAnyH_take (i:=10) (v:=.pointer (some ⟨b,0,none⟩)) rfl (by kernel_rfl) (by kernel_rfl) (by kernel_rfl) (fun _ _ _ h=>h) (Or.inl ⟨by kernel_rfl,fun w' hS=>?_⟩) HS.o ?_
 ·go_simp
 refine wpAnyH_take (i:=11) (v:=.pointer (some ⟨b,0,none⟩)) rfl (by kernel_rfl) (by kernel_rfl) (by kernel_rfl) (fun _ _ _ h=>h) (Or.inl ⟨by kernel_rfl,fun w' hS=>?_⟩) HS.o ?_
 ·go_simp
 refine wpAnyH_take (i:=12) (v:=.pointer (some ⟨b,1,none⟩)) rfl (by kernel_rfl) (by kernel_rfl) (by kernel_rfl) (fun _ _ _ h=>h) (Or.inl ⟨by kernel_rfl,fun w' hS=>?_⟩) HS.o ?_
 ·go_simp
 refine wpAnyH_take (i:=13) (v:=.int .i64 i) rfl (by kernel_rfl) (by kernel_rfl) (by kernel_rfl) (fun _ _ _ h=>h) (Or.inl ⟨by kernel_rfl,fun w' hS=>?_⟩) HS.o ?_
 ·(obtain⟨y0,y1,y2⟩:=HCl.o w' hS;go_simp)
 refine wpAnyH_ready (rs:=[14,19]) (by kernel_rfl) (by simp) ?_
 refine AllReadyH.cons rfl (fun K hK=>?_) (AllReadyH.cons rfl (fun K hK=>?_) AllReadyH.nil)
 ·go_simp
  refine(HD.o _ HS.o).mono ?_
  rintro e w2 ⟨rfl,hbW,hbc, -, -, -,hkl⟩
  have HLK:=I hkl
  clear hkl
  refine hK.out _ _ hbW (fun _=>?_)
  clear hK K
  refine wpAnyH_take (i:=15) (v:=.tuple #[.agg #[.int .i64 (t.kind),.int .i64 (t.num),.string (t.text),.bool (t.neg),.int .i64 (t.least),.int .i64 (t.an),.int .i64 (t.bB),.int .i64 (t.fold)],.int .i64 (k:Nat),.int .i64 0]) rfl (by kernel_rfl) (by kernel_rfl) (by kernel_rfl) (fun _ _ _ h=>h) (Or.inl ⟨by kernel_rfl,fun w' hS=>?_⟩) hbW ?_
  ·go_simp
  refine wpAnyH_take (i:=16) (v:=.agg #[.int .i64 (t.kind),.int .i64 (t.num),.string (t.text),.bool (t.neg),.int .i64 (t.least),.int .i64 (t.an),.int .i64 (t.bB),.int .i64 (t.fold)]) rfl (by kernel_rfl) (by kernel_rfl) (by kernel_rfl) (fun _ _ _ h=>h) (Or.inl ⟨by kernel_rfl,fun w' hS=>?_⟩) hbW ?_
  ·go_simp
  refine wpAnyH_take (i:=17) (v:=.int .i64 (k:Nat)) rfl (by kernel_rfl) (by kernel_rfl) (by kernel_rfl) (fun _ _ _ h=>h) (Or.inl ⟨by kernel_rfl,fun w' hS=>?_⟩) hbW ?_
  ·go_simp
  refine wpAnyH_take (i:=18) (v:=.int .i64 0) rfl (by kernel_rfl) (by kernel_rfl) (by kernel_rfl) (fun _ _ _ h=>h) (Or.inl ⟨by kernel_rfl,fun w' hS=>?_⟩) hbW ?_
  ·go_simp
  refine wpAnyH_ready (rs:=[19]) (by kernel_rfl) (by simp) ?_
  refine AllReadyH.cons rfl (fun K hK=>?_) AllReadyH.nil
  go_simp
  refine hK.out _ _ (hbW.alloc hbW.size _) (fun hS2=>?_)
  clear hK K
  refine wpAnyH_ready (rs:=[20]) (by kernel_rfl) (by simp) ?_
  refine AllReadyH.cons rfl (fun K hK=>?_) AllReadyH.nil
  go_simp
  refine hK.out _ _ (hbW.alloc hbW.size _) (fun hS3=>?_)
  clear hK K
  refine wpAnyH_take (i:=21) (v:=.int .i64 (k:Nat)) rfl (by kernel_rfl) (by kernel_rfl) (by kernel_rfl) (fun _ _ _ h=>h) (Or.inl ⟨by kernel_rfl,fun w' hS=>?_⟩) hS3 ?_
  ·go_simp
  refine wpAnyH_take (i:=22) (v:=.int .i64 0) rfl (by kernel_rfl) (by kernel_rfl) (by kernel_rfl) (fun _ _ _ h=>h) (Or.inl ⟨by kernel_rfl,fun w' hS=>?_⟩) hS3 ?_
  ·go_simp
  refine wpAnyH_done (by kernel_rfl) ?_ _
  have hM3:=TK.aj w2 (TK.aq t)
  have hM3l:=hbW.size
  obtain⟨w3,hw3⟩:∃w3,w3=w2.alloc (TK.aq t):=⟨_,rfl⟩
  obtain⟨M,hMM⟩:∃M,M=w2.heap.size:=⟨_,rfl⟩
  rw[<- hw3]at hM3
  simp only[TK.aq]at hw3
  rw[<- hw3]at hS3 |-
  rw[<- hMM]at hM3 hM3l |-
  clear hw3 hMM hbc hS2 hbW
  have HB3:=I hS3
  have hr3:=HR.o.ar hS3
  have HR3:=I hr3
  have hm3:=I (HM.o.trans (Mv.ae hS3))
  have HN3:Hid (w3.heap[w.heap.size]? =some (TK.aq {})):=by show _=_;rw[hS3.block _ (lt_of_block HN.o)];exact HN.o
  have hNM:w.heap.size<M:=Nat.lt_of_lt_of_le (lt_of_block HN.o) hM3l
  obtain⟨c0,c1,c2,c3,f1⟩:=hr3.cells
  obtain⟨g0,g1,g2,g3,g4,g5,g6,g7⟩:=TK.ai hM3
  obtain⟨m0,m1,m2,m3,m4,m5,m6,m7⟩:=TK.ai (t:={}) HN3.o
  have fr0:=TK.au (t:={}) HN3.o
  have hNb:¬w.heap.size=b:=by omega
  have hbN:¬b=w.heap.size:=by omega
  have hMb:¬M=b:=by omega
  have hbM:¬b=M:=by omega
  have hMN:¬M=w.heap.size:=by omega
  have hNM2:¬w.heap.size=M:=by omega
  obtain⟨N,hNN⟩:∃N,N=w.heap.size:=⟨_,rfl⟩
  have HNw:=I hNN
  rw[<- hNN]at m0 m1 m2 m3 m4 m5 m6 m7 fr0 HN3 hNb hbN hMN hNM2 |-
  have HM3:=I hM3
  clear hr3 hS3 hM3 hM3l hNM hbs hNN HD HCl HS HR HM HN c0 c2 c3
  go_wp21
  refine TK.aK (t:=t) (N:=N) results220 rfl (TK.aI (t0:={}) (by rw[Below.heap_setCell _ _ _ _ hNb];exact HN3.o) t) ?_
  have k1:=hm3.o.setCell 1 (.int .i64 (k:Int))
  have k2:=HR3.o.go k HLK.o
  refine .inl ⟨.cls t.text t.neg,k,t,hE2.o,rfl,⟨HK1.o,rfl,rfl⟩,fun hh=>absurd (HK1.o.symm.trans hh) (by decide),?_,HIK.o,?_⟩
  ·exact BB.kq (B:=w.heap.size) k2 (TK.dh (J _ _) (by have:=HNw.o;omega) _ _ _ _ _ _ _ _) HBS.o HXL.o
  ·exact TK.Mv.tok k1 (by have:=HNw.o;omega) _ _ _ _ _ _ _ _
 ·go_simp
  have hb1:Below W.heap.size W (W.alloc (TK.aq {})).drew:=((J _ W).alloc (U _) _).drew
  refine hK.out _ _ hb1 (fun hS1=>?_)
  clear hK K
  refine wpAnyH_ready (rs:=[14]) (by kernel_rfl) (by simp) ?_
  refine AllReadyH.cons rfl (fun K hK=>?_) AllReadyH.nil
  go_simp
  refine(HD.o _ hS1).mono ?_
  rintro e w2 ⟨rfl,hbW,hbc, -, -, -,hkl⟩
  have HLK:=I hkl
  clear hkl
  have hM:w2.heap[W.heap.size]? =some (TK.aq {}):=by rw[hbc.block _ (by show _<(W.alloc _).heap.size;simp)];exact TK.aj _ _
  obtain⟨g0,g1,g2,g3,g4,g5,g6,g7⟩:=TK.ai hM
  have gf:=TK.au hM
  refine hK.out _ _ hbW (fun _=>?_)
  clear hK K
  refine wpAnyH_take (i:=15) (v:=.tuple #[.agg #[.int .i64 (t.kind),.int .i64 (t.num),.string (t.text),.bool (t.neg),.int .i64 (t.least),.int .i64 (t.an),.int .i64 (t.bB),.int .i64 (t.fold)],.int .i64 (k:Nat),.int .i64 0]) rfl (by kernel_rfl) (by kernel_rfl) (by kernel_rfl) (fun _ _ _ h=>h) (Or.inl ⟨by kernel_rfl,fun w' hS=>?_⟩) hbW ?_
  ·go_simp
  refine wpAnyH_take (i:=16) (v:=.agg #[.int .i64 (t.kind),.int .i64 (t.num),.string (t.text),.bool (t.neg),.int .i64 (t.least),.int .i64 (t.an),.int .i64 (t.bB),.int .i64 (t.fold)]) rfl (by kernel_rfl) (by kernel_rfl) (by kernel_rfl) (fun _ _ _ h=>h) (Or.inl ⟨by kernel_rfl,fun w' hS=>?_⟩) hbW ?_
  ·go_simp
  refine wpAnyH_take (i:=17) (v:=.int .i64 (k:Nat)) rfl (by kernel_rfl) (by kernel_rfl) (by kernel_rfl) (fun _ _ _ h=>h) (Or.inl ⟨by kernel_rfl,fun w' hS=>?_⟩) hbW ?_
  ·go_simp
  refine wpAnyH_take (i:=18) (v:=.int .i64 0) rfl (by kernel_rfl) (by kernel_rfl) (by kernel_rfl) (fun _ _ _ h=>h) (Or.inl ⟨by kernel_rfl,fun w' hS=>?_⟩) hbW ?_
  ·go_simp
  refine wpAnyH_ready (rs:=[20]) (by kernel_rfl) (by simp) ?_
  refine AllReadyH.cons rfl (fun K hK=>?_) AllReadyH.nil
  go_simp
  have hS3':=TK.dh hbW (U _) (.int .i64 (t.kind)) (.int .i64 (t.num)) (.string (t.text)) (.bool (t.neg)) (.int .i64 (t.least)) (.int .i64 (t.an)) (.int .i64 (t.bB)) (.int .i64 (t.fold))
  refine hK.out _ _ hS3' (fun hS3=>?_)
  clear hK K
  refine wpAnyH_take (i:=21) (v:=.int .i64 (k:Nat)) rfl (by kernel_rfl) (by kernel_rfl) (by kernel_rfl) (fun _ _ _ h=>h) (Or.inl ⟨by kernel_rfl,fun w' hS=>?_⟩) hS3 ?_
  ·go_simp
  refine wpAnyH_take (i:=22) (v:=.int .i64 0) rfl (by kernel_rfl) (by kernel_rfl) (by kernel_rfl) (fun _ _ _ h=>h) (Or.inl ⟨by kernel_rfl,fun w' hS=>?_⟩) hS3 ?_
  ·go_simp
  refine wpAnyH_done (by kernel_rfl) ?_ _
  have hM3:=TK.aI hM t
  have hM3l:=Nat.le_refl W.heap.size
  obtain⟨w3,hw3⟩:∃w3,w3=((((((((w2.setCell ⟨W.heap.size,0,none⟩ (.int .i64 (t.kind))).setCell ⟨W.heap.size,1,none⟩ (.int .i64 (t.num))).setCell ⟨W.heap.size,2,none⟩ (.string (t.text))).setCell ⟨W.heap.size,3,none⟩ (.bool (t.neg))).setCell ⟨W.heap.size,4,none⟩ (.int .i64 (t.least))).setCell ⟨W.heap.size,5,none⟩ (.int .i64 (t.an))).setCell ⟨W.heap.size,6,none⟩ (.int .i64 (t.bB))).setCell ⟨W.heap.size,7,none⟩ (.int .i64 (t.fold))):=⟨_,rfl⟩
  obtain⟨M,hMM⟩:∃M,M=W.heap.size:=⟨_,rfl⟩
  rw[<- hw3]at hM3 hS3 |-
  rw[<- hMM]at hM3 |-
  replace hM3l:W.heap.size<=M:=by omega
  clear hw3 hMM hbc hS1 hb1 hbW hM g0 g1 g2 g3 g4 g5 g6 g7 gf hS3'
  have HB3:=I hS3
  have hr3:=HR.o.ar hS3
  have HR3:=I hr3
  have hm3:=I (HM.o.trans (Mv.ae hS3))
  have HN3:Hid (w3.heap[w.heap.size]? =some (TK.aq {})):=by show _=_;rw[hS3.block _ (lt_of_block HN.o)];exact HN.o
  have hNM:w.heap.size<M:=Nat.lt_of_lt_of_le (lt_of_block HN.o) hM3l
  obtain⟨c0,c1,c2,c3,f1⟩:=hr3.cells
  obtain⟨g0,g1,g2,g3,g4,g5,g6,g7⟩:=TK.ai hM3
  obtain⟨m0,m1,m2,m3,m4,m5,m6,m7⟩:=TK.ai (t:={}) HN3.o
  have fr0:=TK.au (t:={}) HN3.o
  have hNb:¬w.heap.size=b:=by omega
  have hbN:¬b=w.heap.size:=by omega
  have hMb:¬M=b:=by omega
  have hbM:¬b=M:=by omega
  have hMN:¬M=w.heap.size:=by omega
  have hNM2:¬w.heap.size=M:=by omega
  obtain⟨N,hNN⟩:∃N,N=w.heap.size:=⟨_,rfl⟩
  have HNw:=I hNN
  rw[<- hNN]at m0 m1 m2 m3 m4 m5 m6 m7 fr0 HN3 hNb hbN hMN hNM2 |-
  have HM3:=I hM3
  clear hr3 hS3 hM3 hM3l hNM hbs hNN HD HCl HS HR HM HN c0 c2 c3
  go_wp21
  refine TK.aK (t:=t) (N:=N) results220 rfl (TK.aI (t0:={}) (by rw[Below.heap_setCell _ _ _ _ hNb];exact HN3.o) t) ?_
  have k1:=hm3.o.setCell 1 (.int .i64 (k:Int))
  have k2:=HR3.o.go k HLK.o
  refine .inl ⟨.cls t.text t.neg,k,t,hE2.o,rfl,⟨HK1.o,rfl,rfl⟩,fun hh=>absurd (HK1.o.symm.trans hh) (by decide),?_,HIK.o,?_⟩
  ·exact BB.kq (B:=w.heap.size) k2 (TK.dh (J _ _) (by have:=HNw.o;omega) _ _ _ _ _ _ _ _) HBS.o HXL.o
  ·exact TK.Mv.tok k1 (by have:=HNw.o;omega) _ _ _ _ _ _ _ _
variable {w w' : World} {b : Nat} {v : Value} {l : List Int} {i : Nat} {d : Int} {fo : Bool}
theorem ze(h:BB w b v l i d fo)(hi:i<l.length)(hd:(d==1)=true)(h92:aX l i [92]=true){t:TK.Tok}{k:Nat}(hRR:TK.aQ 1 l i=.ok (t,k))(hk:t.kind≠1)(hk4:t.kind≠4):Calls prog 220 #[.pointer (some ⟨b,0,none⟩)] w fun e w'=>ru (dJ (par d fo) l i) b v l i d fo w e w':=by
 have hE:=I (mO (d:=d) (fo:=fo) hi (by rw[hd,h92];rfl))
 have hd1:d=1:=by simpa using hd
 have hbs:=h.lt
 have HBS:=I hbs
 have hsm:=h.small
 have hE2:Hid (dJ (par d fo) l i=.error (1,(i:Int))):=by show _=_;rw[hE.o,hRR];simp[jU,hk,hk4]
 have q1:(t.kind !=1)=true:=by simpa using hk
 have q2:(t.kind !=4)=true:=by simpa using hk4
 have h0:=h.alloc (TK.aq {})
 have HN:Hid (Calls prog 104 #[.pointer (some ⟨b,0,none⟩)] (w.alloc (TK.aq {})) fun e w'=>e=.returned (.bool false)/\BB w' b v l i d fo/\Mv b w w'/\w'.heap[w.heap.size]? =some (TK.aq {})):=by
  have:=eE h0
  rw[show decide (l.length<=i)=false by simpa using hi]at this
  exact this.mono fun e w' ⟨h1,q,h2⟩=>⟨h1,by rw[h2];exact h0.drewN q,by rw[h2];exact((Mv.refl b w).alloc _).drewN q,by rw[h2];exact TK.aj _ _⟩
 have hpe:TK.fx d l i=TK.aQ 1 l i:=by
  unfold TK.fx
  have:TK.cq d l=0:=by
   unfold TK.cq
   rw[if_neg (by omega),if_neg (by omega),if_pos (List.all_eq_true.2 fun p hp=>by have:=h.dL p hp;simp[TK.eA];omega)]
  rw[if_neg (by simp[this]),if_neg (by omega),hd1]
  simp
 have HX:Hid (∀W,BB W b v l i d fo->∀Wc,Below W.heap.size W Wc->Calls prog 65 #[.int .i64 d,v,.int .i64 i] Wc fun e w2=>e=.returned (.tuple #[TK.aZ t,.int .i64 (k:Nat),.int .i64 0])/\Below W.heap.size W w2/\Below Wc.heap.size Wc w2/\w2.cell? ⟨b,0,none⟩=some v/\w2.cell? ⟨b,1,none⟩=some (.int .i64 i)/\w2.cell? ⟨b,2,none⟩=some (.int .i64 d)):=by
  intro W hW Wc hWc
  have:=TK.im d (i:Int) v l Wc (hW.ar hWc).pat
  rw[hpe]at this
  refine this.mono ?_
  rintro e w2 (⟨t',k',hR,he,hkl,hb⟩|⟨z',hR,he,hb⟩)
  ·have hbw:=hWc.trans (hb.mono hWc.size)
   obtain⟨c0,c1,c2,c3,f1⟩:=(hW.ar hbw).cells
   rw[hRR]at hR
   cases hR
   exact⟨he,hbw,hb,c0,c1,c2⟩
  ·have hbw:=hWc.trans (hb.mono hWc.size)
   obtain⟨c0,c1,c2,c3,f1⟩:=(hW.ar hbw).cells
   rw[hRR]at hR
   cases hR
 have HPO:=I (fun t k=>ky (t:=t) (k:=k) h.dL h92)
 have HXL:=I h.GS
 have HD0:=I hd
 have HI:Hid (∀w1,BB w1 b v l i d fo->Calls prog 124 #[.pointer (some ⟨b,0,none⟩),.slice (some ⟨w1.heap.size,0,none⟩) 1 1] (w1.alloc (.cells #[.int .i64 92] 3)) fun e w'=>e=.returned (.bool true)/\Below w1.heap.size w1 w'):=fun w1 h1=>by
  have:=Hu h1 92
  rw[h92]at this
  exact this
 simp only[TK.aq]at HN
 clear h h0 h92 hd hpe hd1 HPO hRR hk hk4
 go_enter func220,ntmps220
 go_wp2_with fail
 refine HN.o.mono ?_
 rintro e w1 ⟨rfl,hr1,hm1,hN1⟩
 have HR1:=I hr1
 have HM1:=I hm1
 have HN1:=I hN1
 clear hr1 hm1 hN1 HN
 go_wp2_with fail
 refine(dx HR1.o HD0.o).mono ?_
 rintro e w1' ⟨rfl,rfl⟩
 go_wp2_with fail
 refine(HI.o w1 HR1.o).mono ?_
 rintro e W ⟨rfl,hbW⟩
 go_upto_region 7 with fail
 have hr:=HR1.o.ar hbW
 have hm:=HM1.o.trans (Mv.ae hbW)
 have hN:W.heap[w.heap.size]? =some (TK.aq {}):=by rw[hbW.block _ (lt_of_block HN1.o)];exact HN1.o
 clear hbW HI HR1 HM1 HN1 HD0
 have HR:=I hr
 have HM:=I hm
 have HN:=I hN
 have HD:=I (HX.o W hr)
 obtain⟨c0,c1,c2,c3,f1⟩:=hr.cells
 obtain⟨ao,c,hv⟩:=hr.pat.shape
 obtain⟨n,hn⟩:∃n,n=l.length:=⟨_,rfl⟩
 rw[<- hn]at hv hi hsm
 have HV:=I hv
 rw[hv]at c0 HD
 have HNN:=I hn
 clear hr hm hN hv HX hn
 simp only[TK.aZ]at HD
 have HS:Hid (Below W.heap.size W W.drew):=⟨rfl,rfl,rfl,U _,fun _ _=>rfl⟩
 have HCl:Hid (∀w',Below W.heap.size W w'->w'.cell? ⟨b,0,none⟩=some (.slice ao n c)/\w'.cell? ⟨b,1,none⟩=some (.int .i64 i)/\w'.cell? ⟨b,2,none⟩=some (.int .i64 d)):=fun w' hS=>by
  obtain⟨y0,y1,y2,y3,y4⟩:=(HR.o.ar hS).cells
  rw[HV.o]at y0
  exact⟨y0,y1,y2⟩
 clear c0 c1 c2 c3 f1
 refine wp_region_held (S:=fun w'=>Below W.heap.size W w') (by kernel_rfl) ?_
 change wpAnyH _ _ _ _ _ _ _ _ (World.drew _)
 refine wpAnyH_take (i:=0) (v:=.pointer (some ⟨b,0,none⟩)) rfl (by kernel_rfl) (by kernel_rfl) (by kernel_rfl) (fun _ _ _ h=>h) (Or.inl ⟨by kernel_rfl,fun w' hS=>?_⟩) HS.o ?_
 ·go_simp
 refine wpAnyH_take (i:=1) (v:=.pointer (some ⟨b,0,none⟩)) rfl (by kernel_rfl) (by kernel_rfl) (by kernel_rfl) (fun _ _ _ h=>h) (Or.inl ⟨by kernel_rfl,fun w' hS=>?_⟩) HS.o ?_
 ·go_simp
 refine wpAnyH_take (i:=2) (v:=.pointer (some ⟨b,2,none⟩)) rfl (by kernel_rfl) (by kernel_rfl) (by kernel_rfl) (fun _ _ _ h=>h) (Or.inl ⟨by kernel_rfl,fun w' hS=>?_⟩) HS.o ?_
 ·go_simp
 refine wpAnyH_take (i:=3) (v:=.int .i64 d) rfl (by kernel_rfl) (by kernel_rfl) (by kernel_rfl) (fun _ _ _ h=>h) (Or.inl ⟨by kernel_rfl,fun w' hS=>?_⟩) HS.o ?_
 ·(obtain⟨y0,y1,y2⟩:=HCl.o w' hS;go_simp)
 refine wpAnyH_take (i:=4) (v:=.pointer (some ⟨b,0,none⟩)) rfl (by kernel_rfl) (by kernel_rfl) (by kernel_rfl) (fun _ _ _ h=>h) (Or.inl ⟨by kernel_rfl,fun w' hS=>?_⟩) HS.o ?_
 ·go_simp
 refine wpAnyH_take (i:=5) (v:=.pointer (some ⟨b,0,none⟩)) rfl (by kernel_rfl) (by kernel_rfl) (by kernel_rfl) (fun _ _ _ h=>h) (Or.inl ⟨by kernel_rfl,fun w' hS=>?_⟩) HS.o ?_
 ·go_simp
 refine wpAnyH_take (i:=6) (v:=.pointer (some ⟨b,0,none⟩)) rfl (by kernel_rfl) (by kernel_rfl) (by kernel_rfl) (fun _ _ _ h=>h) (Or.inl ⟨by kernel_rfl,fun w' hS=>?_⟩) HS.o ?_
 ·go_simp
 refine wpAnyH_take (i:=7) (v:=.pointer (some ⟨b,0,none⟩)) rfl (by kernel_rfl) (by kernel_rfl) (by kernel_rfl) (fun _ _ _ h=>h) (Or.inl ⟨by kernel_rfl,fun w' hS=>?_⟩) HS.o ?_
 ·go_simp
 refine wpAnyH_take (i:=8) (v:=.slice ao n c) rfl (by kernel_rfl) (by kernel_rfl) (by kernel_rfl) (fun _ _ _ h=>h) (Or.inl ⟨by kernel_rfl,fun w' hS=>?_⟩) HS.o ?_
 ·(obtain⟨y0,y1,y2⟩:=HCl.o w' hS;go_simp)
 refine wpAnyH_take (i:=9) (v:=.pointer (some ⟨b,0,none⟩)) rfl (by kernel_rfl) (by kernel_rfl) (by kernel_rfl) (fun _ _ _ h=>h) (Or.inl ⟨by kernel_rfl,fun w' hS=>?_⟩) HS.o ?_
 ·go_simp
 refine wpAnyH_take (i:=10) (v:=.pointer (some ⟨b,0,none⟩)) rfl (by kernel_rfl) (by kernel_rfl) (by kernel_rfl) (fun _ _ _ h=>h) (Or.inl ⟨by kernel_rfl,fun w' hS=>?_⟩) HS.o ?_
 ·go_simp
 refine wpAnyH_take (i:=11) (v:=.pointer (some ⟨b,0,none⟩)) rfl (by kernel_rfl) (by kernel_rfl) (by kernel_rfl) (fun _ _ _ h=>h) (Or.inl ⟨by kernel_rfl,fun w' hS=>?_⟩) HS.o ?_
 ·go_simp
 refine wpAnyH_take (i:=12) (v:=.pointer (some ⟨b,1,none⟩)) rfl (by kernel_rfl) (by kernel_rfl) (by kernel_rfl) (fun _ _ _ h=>h) (Or.inl ⟨by kernel_rfl,fun w' hS=>?_⟩) HS.o ?_
 ·go_simp
 refine wpAnyH_take (i:=13) (v:=.int .i64 i) rfl (by kernel_rfl) (by kernel_rfl) (by kernel_rfl) (fun _ _ _ h=>h) (Or.inl ⟨by kernel_rfl,fun w' hS=>?_⟩) HS.o ?_
 ·(obtain⟨y0,y1,y2⟩:=HCl.o w' hS;go_simp)
 refine wpAnyH_ready (rs:=[14,19]) (by kernel_rfl) (by simp) ?_
 refine AllReadyH.cons rfl (fun K hK=>?_) (AllReadyH.cons rfl (fun K hK=>?_) AllReadyH.nil)
 ·go_simp
  refine(HD.o _ HS.o).mono ?_
  rintro e w2 ⟨rfl,hbW,hbc, -, -, -⟩
  refine hK.out _ _ hbW (fun _=>?_)
  clear hK K
  refine wpAnyH_take (i:=15) (v:=.tuple #[.agg #[.int .i64 (t.kind),.int .i64 (t.num),.string (t.text),.bool (t.neg),.int .i64 (t.least),.int .i64 (t.an),.int .i64 (t.bB),.int .i64 (t.fold)],.int .i64 (k:Nat),.int .i64 0]) rfl (by kernel_rfl) (by kernel_rfl) (by kernel_rfl) (fun _ _ _ h=>h) (Or.inl ⟨by kernel_rfl,fun w' hS=>?_⟩) hbW ?_
  ·go_simp
  refine wpAnyH_take (i:=16) (v:=.agg #[.int .i64 (t.kind),.int .i64 (t.num),.string (t.text),.bool (t.neg),.int .i64 (t.least),.int .i64 (t.an),.int .i64 (t.bB),.int .i64 (t.fold)]) rfl (by kernel_rfl) (by kernel_rfl) (by kernel_rfl) (fun _ _ _ h=>h) (Or.inl ⟨by kernel_rfl,fun w' hS=>?_⟩) hbW ?_
  ·go_simp
  refine wpAnyH_take (i:=17) (v:=.int .i64 (k:Nat)) rfl (by kernel_rfl) (by kernel_rfl) (by kernel_rfl) (fun _ _ _ h=>h) (Or.inl ⟨by kernel_rfl,fun w' hS=>?_⟩) hbW ?_
  ·go_simp
  refine wpAnyH_take (i:=18) (v:=.int .i64 0) rfl (by kernel_rfl) (by kernel_rfl) (by kernel_rfl) (fun _ _ _ h=>h) (Or.inl ⟨by kernel_rfl,fun w' hS=>?_⟩) hbW ?_
  ·go_simp
  refine wpAnyH_ready (rs:=[19]) (by kernel_rfl) (by simp) ?_
  refine AllReadyH.cons rfl (fun K hK=>?_) AllReadyH.nil
  go_simp
  refine hK.out _ _ (hbW.alloc hbW.size _) (fun hS2=>?_)
  clear hK K
  refine wpAnyH_ready (rs:=[20]) (by kernel_rfl) (by simp) ?_
  refine AllReadyH.cons rfl (fun K hK=>?_) AllReadyH.nil
  go_simp
  refine hK.out _ _ (hbW.alloc hbW.size _) (fun hS3=>?_)
  clear hK K
  refine wpAnyH_take (i:=21) (v:=.int .i64 (k:Nat)) rfl (by kernel_rfl) (by kernel_rfl) (by kernel_rfl) (fun _ _ _ h=>h) (Or.inl ⟨by kernel_rfl,fun w' hS=>?_⟩) hS3 ?_
  ·go_simp
  refine wpAnyH_take (i:=22) (v:=.int .i64 0) rfl (by kernel_rfl) (by kernel_rfl) (by kernel_rfl) (fun _ _ _ h=>h) (Or.inl ⟨by kernel_rfl,fun w' hS=>?_⟩) hS3 ?_
  ·go_simp
  refine wpAnyH_done (by kernel_rfl) ?_ _
  have hM3:=TK.aj w2 (TK.aq t)
  have hM3l:=hbW.size
  obtain⟨w3,hw3⟩:∃w3,w3=w2.alloc (TK.aq t):=⟨_,rfl⟩
  obtain⟨M,hMM⟩:∃M,M=w2.heap.size:=⟨_,rfl⟩
  rw[<- hw3]at hM3
  simp only[TK.aq]at hw3
  rw[<- hw3]at hS3 |-
  rw[<- hMM]at hM3 hM3l |-
  clear hw3 hMM hbc hS2 hbW
  have HB3:=I hS3
  have hr3:=HR.o.ar hS3
  have HR3:=I hr3
  have hm3:=I (HM.o.trans (Mv.ae hS3))
  have HN3:Hid (w3.heap[w.heap.size]? =some (TK.aq {})):=by show _=_;rw[hS3.block _ (lt_of_block HN.o)];exact HN.o
  have hNM:w.heap.size<M:=Nat.lt_of_lt_of_le (lt_of_block HN.o) hM3l
  obtain⟨c0,c1,c2,c3,f1⟩:=hr3.cells
  obtain⟨g0,g1,g2,g3,g4,g5,g6,g7⟩:=TK.ai hM3
  obtain⟨m0,m1,m2,m3,m4,m5,m6,m7⟩:=TK.ai (t:={}) HN3.o
  have fr0:=TK.au (t:={}) HN3.o
  have hNb:¬w.heap.size=b:=by omega
  have hbN:¬b=w.heap.size:=by omega
  have hMb:¬M=b:=by omega
  have hbM:¬b=M:=by omega
  have hMN:¬M=w.heap.size:=by omega
  have hNM2:¬w.heap.size=M:=by omega
  obtain⟨N,hNN⟩:∃N,N=w.heap.size:=⟨_,rfl⟩
  have HNw:=I hNN
  rw[<- hNN]at m0 m1 m2 m3 m4 m5 m6 m7 fr0 HN3 hNb hbN hMN hNM2 |-
  have HM3:=I hM3
  clear hr3 hS3 hM3 hM3l hNM hbs hNN HD HCl HS HR HM HN c0 c2 c3
  have HG:=I (aO 1 (i:Int) w3)
  simp only[aw]at HG
  go_wp2_with fail
  refine HG.o.mono ?_
  rintro e w4 ⟨rfl,rfl⟩
  go_wp2
  exact⟨rfl,.inr ⟨1,hE2.o,rfl,hm3.o⟩⟩
 ·go_simp
  have hb1:Below W.heap.size W (W.alloc (TK.aq {})).drew:=((J _ W).alloc (U _) _).drew
  refine hK.out _ _ hb1 (fun hS1=>?_)
  clear hK K
  refine wpAnyH_ready (rs:=[14]) (by kernel_rfl) (by simp) ?_
  refine AllReadyH.cons rfl (fun K hK=>?_) AllReadyH.nil
  go_simp
  refine(HD.o _ hS1).mono ?_
  rintro e w2 ⟨rfl,hbW,hbc, -, -, -⟩
  have hM:w2.heap[W.heap.size]? =some (TK.aq {}):=by rw[hbc.block _ (by show _<(W.alloc _).heap.size;simp)];exact TK.aj _ _
  obtain⟨g0,g1,g2,g3,g4,g5,g6,g7⟩:=TK.ai hM
  have gf:=TK.au hM
  refine hK.out _ _ hbW (fun _=>?_)
  clear hK K
  refine wpAnyH_take (i:=15) (v:=.tuple #[.agg #[.int .i64 (t.kind),.int .i64 (t.num),.string (t.text),.bool (t.neg),.int .i64 (t.least),.int .i64 (t.an),.int .i64 (t.bB),.int .i64 (t.fold)],.int .i64 (k:Nat),.int .i64 0]) rfl (by kernel_rfl) (by kernel_rfl) (by kernel_rfl) (fun _ _ _ h=>h) (Or.inl ⟨by kernel_rfl,fun w' hS=>?_⟩) hbW ?_
  ·go_simp
  refine wpAnyH_take (i:=16) (v:=.agg #[.int .i64 (t.kind),.int .i64 (t.num),.string (t.text),.bool (t.neg),.int .i64 (t.least),.int .i64 (t.an),.int .i64 (t.bB),.int .i64 (t.fold)]) rfl (by kernel_rfl) (by kernel_rfl) (by kernel_rfl) (fun _ _ _ h=>h) (Or.inl ⟨by kernel_rfl,fun w' hS=>?_⟩) hbW ?_
  ·go_simp
  refine wpAnyH_take (i:=17) (v:=.int .i64 (k:Nat)) rfl (by kernel_rfl) (by kernel_rfl) (by kernel_rfl) (fun _ _ _ h=>h) (Or.inl ⟨by kernel_rfl,fun w' hS=>?_⟩) hbW ?_
  ·go_simp
  refine wpAnyH_take (i:=18) (v:=.int .i64 0) rfl (by kernel_rfl) (by kernel_rfl) (by kernel_rfl) (fun _ _ _ h=>h) (Or.inl ⟨by kernel_rfl,fun w' hS=>?_⟩) hbW ?_
  ·go_simp
  refine wpAnyH_ready (rs:=[20]) (by kernel_rfl) (by simp) ?_
  refine AllReadyH.cons rfl (fun K hK=>?_) AllReadyH.nil
  go_simp
  have hS3':=TK.dh hbW (U _) (.int .i64 (t.kind)) (.int .i64 (t.num)) (.string (t.text)) (.bool (t.neg)) (.int .i64 (t.least)) (.int .i64 (t.an)) (.int .i64 (t.bB)) (.int .i64 (t.fold))
  refine hK.out _ _ hS3' (fun hS3=>?_)
  clear hK K
  refine wpAnyH_take (i:=21) (v:=.int .i64 (k:Nat)) rfl (by kernel_rfl) (by kernel_rfl) (by kernel_rfl) (fun _ _ _ h=>h) (Or.inl ⟨by kernel_rfl,fun w' hS=>?_⟩) hS3 ?_
  ·go_simp
  refine wpAnyH_take (i:=22) (v:=.int .i64 0) rfl (by kernel_rfl) (by kernel_rfl) (by kernel_rfl) (fun _ _ _ h=>h) (Or.inl ⟨by kernel_rfl,fun w' hS=>?_⟩) hS3 ?_
  ·go_simp
  refine wpAnyH_done (by kernel_rfl) ?_ _
  have hM3:=TK.aI hM t
  have hM3l:=Nat.le_refl W.heap.size
  obtain⟨w3,hw3⟩:∃w3,w3=((((((((w2.setCell ⟨W.heap.size,0,none⟩ (.int .i64 (t.kind))).setCell ⟨W.heap.size,1,none⟩ (.int .i64 (t.num))).setCell ⟨W.heap.size,2,none⟩ (.string (t.text))).setCell ⟨W.heap.size,3,none⟩ (.bool (t.neg))).setCell ⟨W.heap.size,4,none⟩ (.int .i64 (t.least))).setCell ⟨W.heap.size,5,none⟩ (.int .i64 (t.an))).setCell ⟨W.heap.size,6,none⟩ (.int .i64 (t.bB))).setCell ⟨W.heap.size,7,none⟩ (.int .i64 (t.fold))):=⟨_,rfl⟩
  obtain⟨M,hMM⟩:∃M,M=W.heap.size:=⟨_,rfl⟩
  rw[<- hw3]at hM3 hS3 |-
  rw[<- hMM]at hM3 |-
  replace hM3l:W.heap.size<=M:=by omega
  clear hw3 hMM hbc hS1 hb1 hbW hM g0 g1 g2 g3 g4 g5 g6 g7 gf hS3'
  have HB3:=I hS3
  have hr3:=HR.o.ar hS3
  have HR3:=I hr3
  have hm3:=I (HM.o.trans (Mv.ae hS3))
  have HN3:Hid (w3.heap[w.heap.size]? =some (TK.aq {})):=by show _=_;rw[hS3.block _ (lt_of_block HN.o)];exact HN.o
  have hNM:w.heap.size<M:=Nat.lt_of_lt_of_le (lt_of_block HN.o) hM3l
  obtain⟨c0,c1,c2,c3,f1⟩:=hr3.cells
  obtain⟨g0,g1,g2,g3,g4,g5,g6,g7⟩:=TK.ai hM3
  obtain⟨m0,m1,m2,m3,m4,m5,m6,m7⟩:=TK.ai (t:={}) HN3.o
  have fr0:=TK.au (t:={}) HN3.o
  have hNb:¬w.heap.size=b:=by omega
  have hbN:¬b=w.heap.size:=by omega
  have hMb:¬M=b:=by omega
  have hbM:¬b=M:=by omega
  have hMN:¬M=w.heap.size:=by omega
  have hNM2:¬w.heap.size=M:=by omega
  obtain⟨N,hNN⟩:∃N,N=w.heap.size:=⟨_,rfl⟩
  have HNw:=I hNN
  rw[<- hNN]at m0 m1 m2 m3 m4 m5 m6 m7 fr0 HN3 hNb hbN hMN hNM2 |-
  have HM3:=I hM3
  clear hr3 hS3 hM3 hM3l hNM hbs hNN HD HCl HS HR HM HN c0 c2 c3
  have HG:=I (aO 1 (i:Int) w3)
  simp only[aw]at HG
  go_wp2_with fail
  refine HG.o.mono ?_
  rintro e w4 ⟨rfl,rfl⟩
  go_wp2
  exact⟨rfl,.inr ⟨1,hE2.o,rfl,hm3.o⟩⟩
end Go.Proofs.YtklbbbldalmnbaaGreatDoor.Br
