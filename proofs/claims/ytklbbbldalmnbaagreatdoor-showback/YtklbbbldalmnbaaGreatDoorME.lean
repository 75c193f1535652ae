import Derived.Test.YtklbbbldalmnbaaGreatDoorMC
import Derived.Test.YtklbbbldalmnbaaGreatDoorKL
import Derived.Deep.RegionHeld3
set_option maxHeartbeats 8000000
set_option linter.unusedVariables false
set_option maxRecDepth 100000
open Go.Proofs.Tryz
namespace Go.Proofs.YtklbbbldalmnbaaGreatDoor.Pa
open Go.RowKit
open TR (Tr NV aL cz aG aV bS)
open TK (Mv bJ)
open Br (BE PS aw)
variable {w w' : World} {g : Nat} {v : Value} {l : List Int} {d : Int} {s s' : St} {nv av : Value}
theorem gP(h:RB w g v l d s nv av)(o:Int):Calls prog 111 #[.pointer (some ⟨g,0,none⟩),.int .i64 o] w fun e w'=>e=.returned (.bool (bw s o))/\w=w':=by
 have c12:=h.rd.2.2.2.2.1
 have hE:Hid (bw s o=if o=0 then s.aD else decide (0<o)):=rfl
 clear h
 by_cases ho:o=0
 ·have hE2:Hid (bw s o=s.aD):=by show _=_;rw[hE.o,if_pos ho]
  subst ho
  rw[hE2.o]
  go_enter func111,ntmps111
  go_wp2
  go_ret
  exact⟨rfl,rfl⟩
 ·have hE2:Hid (bw s o=decide (0<o)):=by show _=_;rw[hE.o,if_neg ho]
  rw[hE2.o]
  go_enter func111,ntmps111
  go_wp2
  go_ret
  exact⟨rfl,rfl⟩
theorem oS(h:RB w g v l d s nv av):Calls prog 76 #[.pointer (some ⟨g,0,none⟩)] w fun e w'=>e=.returned (.bool (decide (s.pos=l.length)||decide (s.tok.kind=9)||decide (s.tok.kind=8)))/\∃q,w'=w.drewN q:=by
 obtain⟨c0,c1,c10, -⟩:=h.rd
 obtain⟨c2, -⟩:=h.tk
 obtain⟨ao,c,hv⟩:=h.pat.shape
 obtain⟨n,hn⟩:∃n,n=l.length:=⟨_,rfl⟩
 obtain⟨k,hk⟩:∃k,k=s.tok.kind:=⟨_,rfl⟩
 obtain⟨p,hp⟩:∃p,p=s.pos:=⟨_,rfl⟩
 rw[<- hn]at hv |-
 rw[<- hk]at c2 |-
 rw[<- hp]at c10 |-
 rw[hv]at c1
 clear h hn hk hp hv c0
 have e0:(p=n)↔(p:Int)=(n:Int):=by omega
 by_cases h1:p=n
 ·have q1:((p:Int)==(n:Int))=true:=by simp[h1]
  have q2:(decide (p=n))=true:=by simp[h1]
  rw[q2,Bool.true_or,Bool.true_or]
  clear h1 e0 q2
  go_enter func76,ntmps76
  go_wp2
  go_quiet (fail)
  go_wp2
  go_ret
  exact⟨rfl,_,rfl⟩
 ·have q1:((p:Int)==(n:Int))=false:=by simp;omega
  have q2:(decide (p=n))=false:=by simp[h1]
  rw[q2,Bool.false_or]
  clear h1 e0 q2
  by_cases h2:k=9
  ·subst h2
   rw[show (decide ((9:Int)=9)||decide ((9:Int)=8))=true from rfl]
   go_enter func76,ntmps76
   go_wp2
   go_quiet (fail)
   go_wp2
   go_ret
   exact⟨rfl,_,rfl⟩
  ·have q3:(k==9)=false:=by simpa using h2
   have q4:(decide (k=9))=false:=by simpa using h2
   rw[q4,Bool.false_or]
   clear h2 q4
   obtain⟨z,hz⟩:∃z,z=(k==8):=⟨_,rfl⟩
   have hz2:decide (k=8)=z:=by rw[hz];rfl
   rw[hz2]
   have q5:(k==8)=z:=hz.symm
   clear hz hz2
   go_enter func76,ntmps76
   go_wp2
   go_quiet (fail)
   go_wp2
   go_ret
   exact⟨rfl,_,rfl⟩
def ob(w:World)(g:Nat)(t:TK.Tok):World:=(((((((w.setCell ⟨g,2,none⟩ (.int .i64 t.kind)).setCell ⟨g,3,none⟩ (.int .i64 t.num)).setCell ⟨g,4,none⟩ (.string t.text)).setCell ⟨g,5,none⟩ (.bool t.neg)).setCell ⟨g,6,none⟩ (.int .i64 t.least)).setCell ⟨g,7,none⟩ (.int .i64 t.an)).setCell ⟨g,8,none⟩ (.int .i64 t.bB)).setCell ⟨g,9,none⟩ (.int .i64 t.fold)
theorem RB.ob(h:RB w g v l d s nv av)(t:TK.Tok):RB (ob w g t) g v l d { s with tok:=t } nv av:=by
 have h1:=h.set (s':={ s with tok:={ s.tok with kind:=t.kind } }) 2 (.int .i64 t.kind) rfl rfl rfl
 have h2:=h1.set (s':={ s with tok:={ s.tok with kind:=t.kind,num:=t.num } }) 3 (.int .i64 t.num) rfl rfl rfl
 have h3:=h2.set (s':={ s with tok:={ s.tok with kind:=t.kind,num:=t.num,text:=t.text } }) 4 (.string t.text) rfl rfl rfl
 have h4:=h3.set (s':={ s with tok:={ s.tok with kind:=t.kind,num:=t.num,text:=t.text,neg:=t.neg } }) 5 (.bool t.neg) rfl rfl rfl
 have h5:=h4.set (s':={ s with tok:={ s.tok with kind:=t.kind,num:=t.num,text:=t.text,neg:=t.neg,least:=t.least } }) 6 (.int .i64 t.least) rfl rfl rfl
 have h6:=h5.set (s':={ s with tok:={ s.tok with kind:=t.kind,num:=t.num,text:=t.text,neg:=t.neg,least:=t.least,an:=t.an } }) 7 (.int .i64 t.an) rfl rfl rfl
 have h7:=h6.set (s':={ s with tok:={ s.tok with kind:=t.kind,num:=t.num,text:=t.text,neg:=t.neg,least:=t.least,an:=t.an,bB:=t.bB } }) 8 (.int .i64 t.bB) rfl rfl rfl
 exact h7.set (s':={ s with tok:=t }) 9 (.int .i64 t.fold) rfl rfl rfl
theorem nU{w0:World}(h:Mv g w0 w)(t:TK.Tok):Mv g w0 (ob w g t):=
 (((((((h.setCell 2 _).setCell 3 _).setCell 4 _).setCell 5 _).setCell 6 _).setCell 7 _).setCell 8 _).setCell 9 _
theorem wB(h:RB w g v l d s nv av)(hn:s.next=l.length):Calls prog 47 #[.pointer (some ⟨g,0,none⟩)] w fun e w'=>FF (dH d l s) g v l d nv av w e w':=by
 have hE:Hid (dH d l s=.ok { s with pos:=s.next,tok:={} }):=by show _=_;unfold dH;rw[if_pos hn]
 have HR:Hid (RB (w.setCell ⟨g,10,none⟩ (.int .i64 (s.next:Nat))) g v l d { s with pos:=s.next } nv av):=h.set 10 _ rfl rfl rfl
 obtain⟨c0,c1,c10,c11, -⟩:=h.rd
 have hf:=h.fr
 obtain⟨ao,c,hv⟩:=h.pat.shape
 have f10:=hf 10
 have f2:=hf 2
 have f3:=hf 3
 have f4:=hf 4
 have f5:=hf 5
 have f6:=hf 6
 have f7:=hf 7
 have f8:=hf 8
 have f9:=hf 9
 have hg:=h.lt
 obtain⟨p,hp⟩:∃p,p=s.next:=⟨_,rfl⟩
 rw[<- hp]at hn hE HR c11
 rw[<- hn]at hv
 have HVV:=I hv
 obtain⟨c2,c3,c4,c5,c6,c7,c8,c9⟩:=h.tk
 rw[hv]at c1
 clear h hn hv hp hf c0
 go_enter func47,ntmps47
 go_wp2
 go_quiet (fail)
 go_wp2
 refine bodyPost_ret (results_none rfl _ _ _) rfl ?_
 refine .inl ⟨_,hE.o,rfl,?_,?_⟩
 ·exact(HR.o.drewN nq).ob {}
 ·exact nU (((Mv.refl g w).setCell 10 _).drewN nq) {}
variable {w w' : World} {g : Nat} {v : Value} {l : List Int} {d : Int} {s s' : St} {nv av : Value}
theorem sS(hp:TK.cq d l=0){i:Nat}(hi:i<l.length):TK.fx d l i=TK.aQ d l i:=by
 unfold TK.fx
 rw[if_neg (by simp[hp]),if_neg (by omega)]
 simp
theorem Ij(hp:TK.cq d l=0){i:Nat}{z:Int}(h:TK.aQ d l i=.error z):z≠0:=by
 have:=TK.qK h
 unfold TK.oO at this
 omega
theorem yy(h:RB w g v l d s nv av)(hn:s.next<l.length){z:Int}(hR:TK.aQ d l s.next=.error z):Calls prog 47 #[.pointer (some ⟨g,0,none⟩)] w fun e w'=>FF (dH d l s) g v l d nv av w e w':=by
 have hE:Hid (dH d l s=.error (z,(s.next:Int))):=by show _=_;unfold dH;rw[if_neg (by omega),hR]
 have q1:(z !=0)=true:=by simpa using Ij h.pe hR
 have hR2:=sS h.pe hn
 rw[hR]at hR2
 have h0:RB (w.setCell ⟨g,10,none⟩ (.int .i64 (s.next:Nat))) g v l d { s with pos:=s.next } nv av:=h.set 10 _ rfl rfl rfl
 have HR0:=I h0
 obtain⟨p,hp⟩:∃p,p=s.next:=⟨_,rfl⟩
 have HX:Hid (∀W,RB W g v l d { s with pos:=s.next } nv av->∀Wc,Below W.heap.size W Wc->Calls prog 65 #[.int .i64 d,v,.int .i64 (p:Nat)] Wc fun e w2=>e=.returned (.tuple #[TK.aZ ({}:TK.Tok),.int .i64 0,.int .i64 z])/\Below W.heap.size W w2/\Below Wc.heap.size Wc w2):=by
  intro W hW Wc hWc
  have:=TK.im d (p:Int) v l Wc (hW.ar hWc).pat
  rw[hp,hR2]at this
  rw[hp]
  refine this.mono ?_
  rintro e w2 (⟨t',k',hR',he,hkl,hb⟩|⟨z',hR',he,hb⟩)
  ·cases hR'
  ·cases hR'
   exact⟨he,hWc.trans (hb.mono hWc.size),hb⟩
 obtain⟨c0,c1,c10,c11, -⟩:=h.rd
 have f10:=h.fr 10
 obtain⟨ao,c,hv⟩:=h.pat.shape
 obtain⟨n,hnn⟩:∃n,n=l.length:=⟨_,rfl⟩
 have hgw:=h.lt
 have qn:((p:Int)==(n:Int))=false:=by simp;omega
 have qn2:¬(p:Int)=(n:Int):=by omega
 rw[<- hp]at c11 HR0 hE HX
 rw[<- hnn]at hv
 have HV:=I hv
 rw[hv]at c1
 clear h h0 hn hv hR2 hR hnn
 have HP:=I hp
 clear hp
 go_enter func47,ntmps47
 go_wp2
 go_quiet (fail)
 go_wp2_with fail
 go_upto_region 3 with fail
 obtain⟨W,hW⟩:∃W,W=(w.setCell ⟨g,10,none⟩ (.int .i64 (p:Nat))).drewN nq:=⟨_,rfl⟩
 have hr:RB W g v l d { s with pos:=p,next:=p } nv av:=by rw[hW];exact HR0.o.drewN nq
 have hm:Mv g w W:=by rw[hW];exact((Mv.refl g w).setCell 10 _).drewN nq
 rw[<- hW]
 have HR:=I hr
 have HM:=I hm
 have HD:=I (HX.o W hr)
 have hgW:=hr.lt
 rw[HV.o]at HD
 simp only[TK.aZ]at HD
 have HS:Hid (Below W.heap.size W W.drew):=⟨rfl,rfl,rfl,U _,fun _ _=>rfl⟩
 have HCl:Hid (∀w',Below W.heap.size W w'->w'.cell? ⟨g,0,none⟩=some (.int .i64 d)/\w'.cell? ⟨g,1,none⟩=some (.slice ao n c)/\w'.cell? ⟨g,10,none⟩=some (.int .i64 (p:Nat))):=fun w' hS=>by
  obtain⟨y0,y1,y2, -⟩:=(HR.o.ar hS).rd
  rw[HV.o]at y1
  exact⟨y0,y1,y2⟩
 clear hW hr hm HX HR0 c0 c1 c10 c11 f10 qn qn2 hgw
 refine wp_region_held (S:=fun w'=>Below W.heap.size W w') (by kernel_rfl) ?_
 change wpAnyH _ _ _ _ _ _ _ _ (World.drew _)
 refine wpAnyH_take (i:=0) (v:=.pointer (some ⟨g,0,none⟩)) rfl (by kernel_rfl) (by kernel_rfl) (by kernel_rfl) (fun _ _ _ h=>h) (Or.inl ⟨by kernel_rfl,fun w' hS=>?_⟩) HS.o ?_
 ·go_simp
 refine wpAnyH_take (i:=1) (v:=.pointer (some ⟨g,0,none⟩)) rfl (by kernel_rfl) (by kernel_rfl) (by kernel_rfl) (fun _ _ _ h=>h) (Or.inl ⟨by kernel_rfl,fun w' hS=>?_⟩) HS.o ?_
 ·go_simp
 refine wpAnyH_take (i:=2) (v:=.pointer (some ⟨g,0,none⟩)) rfl (by kernel_rfl) (by kernel_rfl) (by kernel_rfl) (fun _ _ _ h=>h) (Or.inl ⟨by kernel_rfl,fun w' hS=>?_⟩) HS.o ?_
 ·go_simp
 refine wpAnyH_take (i:=3) (v:=.int .i64 d) rfl (by kernel_rfl) (by kernel_rfl) (by kernel_rfl) (fun _ _ _ h=>h) (Or.inl ⟨by kernel_rfl,fun w' hS=>?_⟩) HS.o ?_
 ·(obtain⟨y0,y1,y2⟩:=HCl.o w' hS;go_simp)
 refine wpAnyH_take (i:=4) (v:=.pointer (some ⟨g,0,none⟩)) rfl (by kernel_rfl) (by kernel_rfl) (by kernel_rfl) (fun _ _ _ h=>h) (Or.inl ⟨by kernel_rfl,fun w' hS=>?_⟩) HS.o ?_
 ·go_simp
 refine wpAnyH_take (i:=5) (v:=.pointer (some ⟨g,0,none⟩)) rfl (by kernel_rfl) (by kernel_rfl) (by kernel_rfl) (fun _ _ _ h=>h) (Or.inl ⟨by kernel_rfl,fun w' hS=>?_⟩) HS.o ?_
 ·go_simp
 refine wpAnyH_take (i:=6) (v:=.pointer (some ⟨g,1,none⟩)) rfl (by kernel_rfl) (by kernel_rfl) (by kernel_rfl) (fun _ _ _ h=>h) (Or.inl ⟨by kernel_rfl,fun w' hS=>?_⟩) HS.o ?_
 ·go_simp
 refine wpAnyH_take (i:=7) (v:=.slice ao n c) rfl (by kernel_rfl) (by kernel_rfl) (by kernel_rfl) (fun _ _ _ h=>h) (Or.inl ⟨by kernel_rfl,fun w' hS=>?_⟩) HS.o ?_
 ·(obtain⟨y0,y1,y2⟩:=HCl.o w' hS;go_simp)
 refine wpAnyH_take (i:=8) (v:=.pointer (some ⟨g,0,none⟩)) rfl (by kernel_rfl) (by kernel_rfl) (by kernel_rfl) (fun _ _ _ h=>h) (Or.inl ⟨by kernel_rfl,fun w' hS=>?_⟩) HS.o ?_
 ·go_simp
 refine wpAnyH_take (i:=9) (v:=.pointer (some ⟨g,0,none⟩)) rfl (by kernel_rfl) (by kernel_rfl) (by kernel_rfl) (fun _ _ _ h=>h) (Or.inl ⟨by kernel_rfl,fun w' hS=>?_⟩) HS.o ?_
 ·go_simp
 refine wpAnyH_take (i:=10) (v:=.pointer (some ⟨g,10,none⟩)) rfl (by kernel_rfl) (by kernel_rfl) (by kernel_rfl) (fun _ _ _ h=>h) (Or.inl ⟨by kernel_rfl,fun w' hS=>?_⟩) HS.o ?_
 ·go_simp
 refine wpAnyH_take (i:=11) (v:=.int .i64 (p:Nat)) rfl (by kernel_rfl) (by kernel_rfl) (by kernel_rfl) (fun _ _ _ h=>h) (Or.inl ⟨by kernel_rfl,fun w' hS=>?_⟩) HS.o ?_
 ·(obtain⟨y0,y1,y2⟩:=HCl.o w' hS;go_simp)
 refine wpAnyH_ready (rs:=[12,17]) (by kernel_rfl) (by simp) ?_
 refine AllReadyH.cons rfl (fun K hK=>?_) (AllReadyH.cons rfl (fun K hK=>?_) AllReadyH.nil)
 ·go_simp
  refine(HD.o _ HS.o).mono ?_
  rintro e w2 ⟨rfl,hbW,hbc⟩
  refine hK.out _ _ hbW (fun _=>?_)
  clear hK K
  refine wpAnyH_take (i:=13) (v:=.tuple #[.agg #[.int .i64 (0),.int .i64 (0),.string (⟨#[]⟩),.bool (false),.int .i64 (0),.int .i64 (0),.int .i64 (0),.int .i64 (0)],.int .i64 0,.int .i64 z]) rfl (by kernel_rfl) (by kernel_rfl) (by kernel_rfl) (fun _ _ _ h=>h) (Or.inl ⟨by kernel_rfl,fun w' hS=>?_⟩) hbW ?_
  ·go_simp
  refine wpAnyH_take (i:=14) (v:=.agg #[.int .i64 (0),.int .i64 (0),.string (⟨#[]⟩),.bool (false),.int .i64 (0),.int .i64 (0),.int .i64 (0),.int .i64 (0)]) rfl (by kernel_rfl) (by kernel_rfl) (by kernel_rfl) (fun _ _ _ h=>h) (Or.inl ⟨by kernel_rfl,fun w' hS=>?_⟩) hbW ?_
  ·go_simp
  refine wpAnyH_take (i:=15) (v:=.int .i64 0) rfl (by kernel_rfl) (by kernel_rfl) (by kernel_rfl) (fun _ _ _ h=>h) (Or.inl ⟨by kernel_rfl,fun w' hS=>?_⟩) hbW ?_
  ·go_simp
  refine wpAnyH_take (i:=16) (v:=.int .i64 z) rfl (by kernel_rfl) (by kernel_rfl) (by kernel_rfl) (fun _ _ _ h=>h) (Or.inl ⟨by kernel_rfl,fun w' hS=>?_⟩) hbW ?_
  ·go_simp
  refine wpAnyH_ready (rs:=[17]) (by kernel_rfl) (by simp) ?_
  refine AllReadyH.cons rfl (fun K hK=>?_) AllReadyH.nil
  go_simp
  refine hK.out _ _ (hbW.alloc hbW.size _) (fun hS2=>?_)
  clear hK K
  refine wpAnyH_ready (rs:=[18]) (by kernel_rfl) (by simp) ?_
  refine AllReadyH.cons rfl (fun K hK=>?_) AllReadyH.nil
  go_simp
  refine hK.out _ _ (hbW.alloc hbW.size _) (fun hS3=>?_)
  clear hK K
  refine wpAnyH_take (i:=19) (v:=.int .i64 0) rfl (by kernel_rfl) (by kernel_rfl) (by kernel_rfl) (fun _ _ _ h=>h) (Or.inl ⟨by kernel_rfl,fun w' hS=>?_⟩) hS3 ?_
  ·go_simp
  refine wpAnyH_take (i:=20) (v:=.int .i64 z) rfl (by kernel_rfl) (by kernel_rfl) (by kernel_rfl) (fun _ _ _ h=>h) (Or.inl ⟨by kernel_rfl,fun w' hS=>?_⟩) hS3 ?_
  ·go_simp
  refine wpAnyH_done (by kernel_rfl) ?_ _
  have hM3:=TK.aj w2 (TK.aq ({}:TK.Tok))
  have hM3l:=hbW.size
  obtain⟨w3,hw3⟩:∃w3,w3=w2.alloc (TK.aq ({}:TK.Tok)):=⟨_,rfl⟩
  obtain⟨M,hMM⟩:∃M,M=w2.heap.size:=⟨_,rfl⟩
  rw[<- hw3]at hM3
  simp only[TK.aq]at hw3
  rw[<- hw3]at hS3 |-
  rw[<- hMM]at hM3 hM3l |-
  clear hw3 hMM hbc hS2 hbW
  have hr3:=HR.o.ar hS3
  have HR3:=I hr3
  have hm3:=I (HM.o.trans (Mv.ae hS3))
  obtain⟨c0,c1,c10,c11, -⟩:=hr3.rd
  obtain⟨b2,b3,b4,b5,b6,b7,b8,b9⟩:=hr3.tk
  have f2:=hr3.fr 2
  have f3:=hr3.fr 3
  have f4:=hr3.fr 4
  have f5:=hr3.fr 5
  have f6:=hr3.fr 6
  have f7:=hr3.fr 7
  have f8:=hr3.fr 8
  have f9:=hr3.fr 9
  have f11:=hr3.fr 11
  obtain⟨g0,g1,g2,g3,g4,g5,g6,g7⟩:=TK.ai hM3
  have hMg:¬M=g:=by omega
  have hgM:¬g=M:=by omega
  clear hr3 hS3 hM3 hM3l HD HCl HS HR HM c0 c1
  have HG:=I (aO z (p:Int) w3)
  simp only[aw]at HG
  go_wp2_with fail
  refine HG.o.mono ?_
  rintro e w4 ⟨rfl,rfl⟩
  go_wp2
  exact⟨rfl,.inr ⟨z,(p:Int),hE.o,rfl,hm3.o⟩⟩
 ·go_simp
  have hb1:Below W.heap.size W (W.alloc (TK.aq {})).drew:=((J _ W).alloc (U _) _).drew
  refine hK.out _ _ hb1 (fun hS1=>?_)
  clear hK K
  refine wpAnyH_ready (rs:=[12]) (by kernel_rfl) (by simp) ?_
  refine AllReadyH.cons rfl (fun K hK=>?_) AllReadyH.nil
  go_simp
  refine(HD.o _ hS1).mono ?_
  rintro e w2 ⟨rfl,hbW,hbc⟩
  have hM:w2.heap[W.heap.size]? =some (TK.aq {}):=by rw[hbc.block _ (by show _<(W.alloc _).heap.size;simp)];exact TK.aj _ _
  obtain⟨g0,g1,g2,g3,g4,g5,g6,g7⟩:=TK.ai hM
  have gf:=TK.au hM
  refine hK.out _ _ hbW (fun _=>?_)
  clear hK K
  refine wpAnyH_take (i:=13) (v:=.tuple #[.agg #[.int .i64 (0),.int .i64 (0),.string (⟨#[]⟩),.bool (false),.int .i64 (0),.int .i64 (0),.int .i64 (0),.int .i64 (0)],.int .i64 0,.int .i64 z]) rfl (by kernel_rfl) (by kernel_rfl) (by kernel_rfl) (fun _ _ _ h=>h) (Or.inl ⟨by kernel_rfl,fun w' hS=>?_⟩) hbW ?_
  ·go_simp
  refine wpAnyH_take (i:=14) (v:=.agg #[.int .i64 (0),.int .i64 (0),.string (⟨#[]⟩),.bool (false),.int .i64 (0),.int .i64 (0),.int .i64 (0),.int .i64 (0)]) rfl (by kernel_rfl) (by kernel_rfl) (by kernel_rfl) (fun _ _ _ h=>h) (Or.inl ⟨by kernel_rfl,fun w' hS=>?_⟩) hbW ?_
  ·go_simp
  refine wpAnyH_take (i:=15) (v:=.int .i64 0) rfl (by kernel_rfl) (by kernel_rfl) (by kernel_rfl) (fun _ _ _ h=>h) (Or.inl ⟨by kernel_rfl,fun w' hS=>?_⟩) hbW ?_
  ·go_simp
  refine wpAnyH_take (i:=16) (v:=.int .i64 z) rfl (by kernel_rfl) (by kernel_rfl) (by kernel_rfl) (fun _ _ _ h=>h) (Or.inl ⟨by kernel_rfl,fun w' hS=>?_⟩) hbW ?_
  ·go_simp
  refine wpAnyH_ready (rs:=[18]) (by kernel_rfl) (by simp) ?_
  refine AllReadyH.cons rfl (fun K hK=>?_) AllReadyH.nil
  go_simp
  have hS3':=TK.dh hbW (U _) (.int .i64 (0)) (.int .i64 (0)) (.string (⟨#[]⟩)) (.bool (false)) (.int .i64 (0)) (.int .i64 (0)) (.int .i64 (0)) (.int .i64 (0))
  refine hK.out _ _ hS3' (fun hS3=>?_)
  clear hK K
  refine wpAnyH_take (i:=19) (v:=.int .i64 0) rfl (by kernel_rfl) (by kernel_rfl) (by kernel_rfl) (fun _ _ _ h=>h) (Or.inl ⟨by kernel_rfl,fun w' hS=>?_⟩) hS3 ?_
  ·go_simp
  refine wpAnyH_take (i:=20) (v:=.int .i64 z) rfl (by kernel_rfl) (by kernel_rfl) (by kernel_rfl) (fun _ _ _ h=>h) (Or.inl ⟨by kernel_rfl,fun w' hS=>?_⟩) hS3 ?_
  ·go_simp
  refine wpAnyH_done (by kernel_rfl) ?_ _
  have hM3:=TK.aI hM ({}:TK.Tok)
  have hM3l:=Nat.le_refl W.heap.size
  obtain⟨w3,hw3⟩:∃w3,w3=((((((((w2.setCell ⟨W.heap.size,0,none⟩ (.int .i64 (0))).setCell ⟨W.heap.size,1,none⟩ (.int .i64 (0))).setCell ⟨W.heap.size,2,none⟩ (.string (⟨#[]⟩))).setCell ⟨W.heap.size,3,none⟩ (.bool (false))).setCell ⟨W.heap.size,4,none⟩ (.int .i64 (0))).setCell ⟨W.heap.size,5,none⟩ (.int .i64 (0))).setCell ⟨W.heap.size,6,none⟩ (.int .i64 (0))).setCell ⟨W.heap.size,7,none⟩ (.int .i64 (0))):=⟨_,rfl⟩
  obtain⟨M,hMM⟩:∃M,M=W.heap.size:=⟨_,rfl⟩
  rw[<- hw3]at hM3 hS3 |-
  rw[<- hMM]at hM3 |-
  replace hM3l:W.heap.size<=M:=by omega
  clear hw3 hMM hbc hS1 hb1 hbW hM g0 g1 g2 g3 g4 g5 g6 g7 gf hS3'
  have hr3:=HR.o.ar hS3
  have HR3:=I hr3
  have hm3:=I (HM.o.trans (Mv.ae hS3))
  obtain⟨c0,c1,c10,c11, -⟩:=hr3.rd
  obtain⟨b2,b3,b4,b5,b6,b7,b8,b9⟩:=hr3.tk
  have f2:=hr3.fr 2
  have f3:=hr3.fr 3
  have f4:=hr3.fr 4
  have f5:=hr3.fr 5
  have f6:=hr3.fr 6
  have f7:=hr3.fr 7
  have f8:=hr3.fr 8
  have f9:=hr3.fr 9
  have f11:=hr3.fr 11
  obtain⟨g0,g1,g2,g3,g4,g5,g6,g7⟩:=TK.ai hM3
  have hMg:¬M=g:=by omega
  have hgM:¬g=M:=by omega
  clear hr3 hS3 hM3 hM3l HD HCl HS HR HM c0 c1
  have HG:=I (aO z (p:Int) w3)
  simp only[aw]at HG
  go_wp2_with fail
  refine HG.o.mono ?_
  rintro e w4 ⟨rfl,rfl⟩
  go_wp2
  exact⟨rfl,.inr ⟨z,(p:Int),hE.o,rfl,hm3.o⟩⟩
theorem zt(h:RB w g v l d s nv av)(hn:s.next<l.length){t:TK.Tok}{k:Nat}(hR:TK.aQ d l s.next=.ok (t,k)):Calls prog 47 #[.pointer (some ⟨g,0,none⟩)] w fun e w'=>FF (dH d l s) g v l d nv av w e w':=by
 have hE:Hid (dH d l s=.ok { s with pos:=s.next,tok:=t,next:=k }):=by show _=_;unfold dH;rw[if_neg (by omega),hR]
 have hR2:=sS h.pe hn
 rw[hR]at hR2
 have h0:RB (w.setCell ⟨g,10,none⟩ (.int .i64 (s.next:Nat))) g v l d { s with pos:=s.next } nv av:=h.set 10 _ rfl rfl rfl
 have HR0:=I h0
 obtain⟨p,hp⟩:∃p,p=s.next:=⟨_,rfl⟩
 have HX:Hid (∀W,RB W g v l d { s with pos:=s.next } nv av->∀Wc,Below W.heap.size W Wc->Calls prog 65 #[.int .i64 d,v,.int .i64 (p:Nat)] Wc fun e w2=>e=.returned (.tuple #[TK.aZ t,.int .i64 (k:Nat),.int .i64 0])/\Below W.heap.size W w2/\Below Wc.heap.size Wc w2):=by
  intro W hW Wc hWc
  have:=TK.im d (p:Int) v l Wc (hW.ar hWc).pat
  rw[hp,hR2]at this
  rw[hp]
  refine this.mono ?_
  rintro e w2 (⟨t',k',hR',he,hkl,hb⟩|⟨z',hR',he,hb⟩)
  ·cases hR'
   exact⟨he,hWc.trans (hb.mono hWc.size),hb⟩
  ·cases hR'
 obtain⟨c0,c1,c10,c11, -⟩:=h.rd
 have f10:=h.fr 10
 obtain⟨ao,c,hv⟩:=h.pat.shape
 obtain⟨n,hnn⟩:∃n,n=l.length:=⟨_,rfl⟩
 have hgw:=h.lt
 have qn:((p:Int)==(n:Int))=false:=by simp;omega
 have qn2:¬(p:Int)=(n:Int):=by omega
 rw[<- hp]at c11 HR0 hE HX
 rw[<- hnn]at hv
 have HV:=I hv
 rw[hv]at c1
 clear h h0 hn hv hR2 hR hnn
 have HP:=I hp
 clear hp
 go_enter func47,ntmps47
 go_wp2
 go_quiet (fail)
 go_wp2_with fail
 go_upto_region 3 with fail
 obtain⟨W,hW⟩:∃W,W=(w.setCell ⟨g,10,none⟩ (.int .i64 (p:Nat))).drewN nq:=⟨_,rfl⟩
 have hr:RB W g v l d { s with pos:=p,next:=p } nv av:=by rw[hW];exact HR0.o.drewN nq
 have hm:Mv g w W:=by rw[hW];exact((Mv.refl g w).setCell 10 _).drewN nq
 rw[<- hW]
 have HR:=I hr
 have HM:=I hm
 have HD:=I (HX.o W hr)
 have hgW:=hr.lt
 rw[HV.o]at HD
 simp only[TK.aZ]at HD
 have HS:Hid (Below W.heap.size W W.drew):=⟨rfl,rfl,rfl,U _,fun _ _=>rfl⟩
 have HCl:Hid (∀w',Below W.heap.size W w'->w'.cell? ⟨g,0,none⟩=some (.int .i64 d)/\w'.cell? ⟨g,1,none⟩=some (.slice ao n c)/\w'.cell? ⟨g,10,none⟩=some (.int .i64 (p:Nat))):=fun w' hS=>by
  obtain⟨y0,y1,y2, -⟩:=(HR.o.ar hS).rd
  rw[HV.o]at y1
  exact⟨y0,y1,y2⟩
 clear hW hr hm HX HR0 c0 c1 c10 c11 f10 qn qn2 hgw
 refine wp_region_held (S:=fun w'=>Below W.heap.size W w') (by kernel_rfl) ?_
 change wpAnyH _ _ _ _ _ _ _ _ (World.drew _)
 refine wpAnyH_take (i:=0) (v:=.pointer (some ⟨g,0,none⟩)) rfl (by kernel_rfl) (by kernel_rfl) (by kernel_rfl) (fun _ _ _ h=>h) (Or.inl ⟨by kernel_rfl,fun w' hS=>?_⟩) HS.o ?_
 ·go_simp
 refine wpAnyH_take (i:=1) (v:=.pointer (some ⟨g,0,none⟩)) rfl (by kernel_rfl) (by kernel_rfl) (by kernel_rfl) (fun _ _ _ h=>h) (Or.inl ⟨by kernel_rfl,fun w' hS=>?_⟩) HS.o ?_
 ·go_simp
 refine wpAnyH_take (i:=2) (v:=.pointer (some ⟨g,0,none⟩)) rfl (by kernel_rfl) (by kernel_rfl) (by kernel_rfl) (fun _ _ _ h=>h) (Or.inl ⟨by kernel_rfl,fun w' hS=>?_⟩) HS.o ?_
 ·go_simp
 refine wpAnyH_take (i:=3) (v:=.int .i64 d) rfl (by kernel_rfl) (by kernel_rfl) (by kernel_rfl) (fun _ _ _ h=>h) (Or.inl ⟨by kernel_rfl,fun w' hS=>?_⟩) HS.o ?_
 ·(obtain⟨y0,y1,y2⟩:=HCl.o w' hS;go_simp)
 refine wpAnyH_take (i:=4) (v:=.pointer (some ⟨g,0,none⟩)) rfl (by kernel_rfl) (by kernel_rfl) (by kernel_rfl) (fun _ _ _ h=>h) (Or.inl ⟨by kernel_rfl,fun w' hS=>?_⟩) HS.o ?_
 ·go_simp
 refine wpAnyH_take (i:=5) (v:=.pointer (some ⟨g,0,none⟩)) rfl (by kernel_rfl) (by kernel_rfl) (by kernel_rfl) (fun _ _ _ h=>h) (Or.inl ⟨by kernel_rfl,fun w' hS=>?_⟩) HS.o ?_
 ·go_simp
 refine wpAnyH_take (i:=6) (v:=.pointer (some ⟨g,1,none⟩)) rfl (by kernel_rfl) (by kernel_rfl) (by kernel_rfl) (fun _ _ _ h=>h) (Or.inl ⟨by kernel_rfl,fun w' hS=>?_⟩) HS.o ?_
 ·go_simp
 refine wpAnyH_take (i:=7) (v:=.slice ao n c) rfl (by kernel_rfl) (by kernel_rfl) (by kernel_rfl) (fun _ _ _ h=>h) (Or.inl ⟨by kernel_rfl,fun w' hS=>?_⟩) HS.o ?_
 ·(obtain⟨y0,y1,y2⟩:=HCl.o w' hS;go_simp)
 refine wpAnyH_take (i:=8) (v:=.pointer (some ⟨g,0,none⟩)) rfl (by kernel_rfl) (by kernel_rfl) (by kernel_rfl) (fun _ _ _ h=>h) (Or.inl ⟨by kernel_rfl,fun w' hS=>?_⟩) HS.o ?_
 ·go_simp
 refine wpAnyH_take (i:=9) (v:=.pointer (some ⟨g,0,none⟩)) rfl (by kernel_rfl) (by kernel_rfl) (by kernel_rfl) (fun _ _ _ h=>h) (Or.inl ⟨by kernel_rfl,fun w' hS=>?_⟩) HS.o ?_
 ·go_simp
 refine wpAnyH_take (i:=10) (v:=.pointer (some ⟨g,10,none⟩)) rfl (by kernel_rfl) (by kernel_rfl) (by kernel_rfl) (fun _ _ _ h=>h) (Or.inl ⟨by kernel_rfl,fun w' hS=>?_⟩) HS.o ?_
 ·go_simp
 refine wpAnyH_take (i:=11) (v:=.int .i64 (p:Nat)) rfl (by kernel_rfl) (by kernel_rfl) (by kernel_rfl) (fun _ _ _ h=>h) (Or.inl ⟨by kernel_rfl,fun w' hS=>?_⟩) HS.o ?_
 ·(obtain⟨y0,y1,y2⟩:=HCl.o w' hS;go_simp)
 refine wpAnyH_ready (rs:=[12,17]) (by kernel_rfl) (by simp) ?_
 refine AllReadyH.cons rfl (fun K hK=>?_) (AllReadyH.cons rfl (fun K hK=>?_) AllReadyH.nil)
 ·go_simp
  refine(HD.o _ HS.o).mono ?_
  rintro e w2 ⟨rfl,hbW,hbc⟩
  refine hK.out _ _ hbW (fun _=>?_)
  clear hK K
  refine wpAnyH_take (i:=13) (v:=.tuple #[.agg #[.int .i64 (t.kind),.int .i64 (t.num),.string (t.text),.bool (t.neg),.int .i64 (t.least),.int .i64 (t.an),.int .i64 (t.bB),.int .i64 (t.fold)],.int .i64 (k:Nat),.int .i64 0]) rfl (by kernel_rfl) (by kernel_rfl) (by kernel_rfl) (fun _ _ _ h=>h) (Or.inl ⟨by kernel_rfl,fun w' hS=>?_⟩) hbW ?_
  ·go_simp
  refine wpAnyH_take (i:=14) (v:=.agg #[.int .i64 (t.kind),.int .i64 (t.num),.string (t.text),.bool (t.neg),.int .i64 (t.least),.int .i64 (t.an),.int .i64 (t.bB),.int .i64 (t.fold)]) rfl (by kernel_rfl) (by kernel_rfl) (by kernel_rfl) (fun _ _ _ h=>h) (Or.inl ⟨by kernel_rfl,fun w' hS=>?_⟩) hbW ?_
  ·go_simp
  refine wpAnyH_take (i:=15) (v:=.int .i64 (k:Nat)) rfl (by kernel_rfl) (by kernel_rfl) (by kernel_rfl) (fun _ _ _ h=>h) (Or.inl ⟨by kernel_rfl,fun w' hS=>?_⟩) hbW ?_
  ·go_simp
  refine wpAnyH_take (i:=16) (v:=.int .i64 0) rfl (by kernel_rfl) (by kernel_rfl) (by kernel_rfl) (fun _ _ _ h=>h) (Or.inl ⟨by kernel_rfl,fun w' hS=>?_⟩) hbW ?_
  ·go_simp
  refine wpAnyH_ready (rs:=[17]) (by kernel_rfl) (by simp) ?_
  refine AllReadyH.cons rfl (fun K hK=>?_) AllReadyH.nil
  go_simp
  refine hK.out _ _ (hbW.alloc hbW.size _) (fun hS2=>?_)
  clear hK K
  refine wpAnyH_ready (rs:=[18]) (by kernel_rfl) (by simp) ?_
  refine AllReadyH.cons rfl (fun K hK=>?_) AllReadyH.nil
  go_simp
  refine hK.out _ _ (hbW.alloc hbW.size _) (fun hS3=>?_)
  clear hK K
  refine wpAnyH_take (i:=19) (v:=.int .i64 (k:Nat)) rfl (by kernel_rfl) (by kernel_rfl) (by kernel_rfl) (fun _ _ _ h=>h) (Or.inl ⟨by kernel_rfl,fun w' hS=>?_⟩) hS3 ?_
  ·go_simp
  refine wpAnyH_take (i:=20) (v:=.int .i64 0) rfl (by kernel_rfl) (by kernel_rfl) (by kernel_rfl) (fun _ _ _ h=>h) (Or.inl ⟨by kernel_rfl,fun w' hS=>?_⟩) hS3 ?_
  ·go_simp
  refine wpAnyH_done (by kernel_rfl) ?_ _
  have hM3:=TK.aj w2 (TK.aq t)
  have hM3l:=hbW.size
  obtain⟨w3,hw3⟩:∃w3,w3=w2.alloc (TK.aq t):=⟨_,rfl⟩
  obtain⟨M,hMM⟩:∃M,M=w2.heap.size:=⟨_,rfl⟩
  rw[<- hw3]at hM3
  simp only[TK.aq]at hw3
  rw[<- hw3]at hS3 |-
  rw[<- hMM]at hM3 hM3l |-
  clear hw3 hMM hbc hS2 hbW
  have hr3:=HR.o.ar hS3
  have HR3:=I hr3
  have hm3:=I (HM.o.trans (Mv.ae hS3))
  obtain⟨c0,c1,c10,c11, -⟩:=hr3.rd
  obtain⟨b2,b3,b4,b5,b6,b7,b8,b9⟩:=hr3.tk
  have f2:=hr3.fr 2
  have f3:=hr3.fr 3
  have f4:=hr3.fr 4
  have f5:=hr3.fr 5
  have f6:=hr3.fr 6
  have f7:=hr3.fr 7
  have f8:=hr3.fr 8
  have f9:=hr3.fr 9
  have f11:=hr3.fr 11
  obtain⟨g0,g1,g2,g3,g4,g5,g6,g7⟩:=TK.ai hM3
  have hMg:¬M=g:=by omega
  have hgM:¬g=M:=by omega
  clear hr3 hS3 hM3 hM3l HD HCl HS HR HM c0 c1
  go_wp2
  go_end0
  refine .inl ⟨_,hE.o,rfl,?_,?_⟩
  ·exact(HR3.o.ob t).set (s':={ s with pos:=p,tok:=t,next:=k }) 11 (.int .i64 (k:Nat)) rfl rfl rfl
  ·exact(nU hm3.o t).setCell 11 _
 ·go_simp
  have hb1:Below W.heap.size W (W.alloc (TK.aq {})).drew:=((J _ W).alloc (U _) _).drew
  refine hK.out _ _ hb1 (fun hS1=>?_)
  clear hK K
  refine wpAnyH_ready (rs:=[12]) (by kernel_rfl) (by simp) ?_
  refine AllReadyH.cons rfl (fun K hK=>?_) AllReadyH.nil
  go_simp
  refine(HD.o _ hS1).mono ?_
  rintro e w2 ⟨rfl,hbW,hbc⟩
  have hM:w2.heap[W.heap.size]? =some (TK.aq {}):=by rw[hbc.block _ (by show _<(W.alloc _).heap.size;simp)];exact TK.aj _ _
  obtain⟨g0,g1,g2,g3,g4,g5,g6,g7⟩:=TK.ai hM
  have gf:=TK.au hM
  refine hK.out _ _ hbW (fun _=>?_)
  clear hK K
  refine wpAnyH_take (i:=13) (v:=.tuple #[.agg #[.int .i64 (t.kind),.int .i64 (t.num),.string (t.text),.bool (t.neg),.int .i64 (t.least),.int .i64 (t.an),.int .i64 (t.bB),.int .i64 (t.fold)],.int .i64 (k:Nat),.int .i64 0]) rfl (by kernel_rfl) (by kernel_rfl) (by kernel_rfl) (fun _ _ _ h=>h) (Or.inl ⟨by kernel_rfl,fun w' hS=>?_⟩) hbW ?_
  ·go_simp
  refine wpAnyH_take (i:=14) (v:=.agg #[.int .i64 (t.kind),.int .i64 (t.num),.string (t.text),.bool (t.neg),.int .i64 (t.least),.int .i64 (t.an),.int .i64 (t.bB),.int .i64 (t.fold)]) rfl (by kernel_rfl) (by kernel_rfl) (by kernel_rfl) (fun _ _ _ h=>h) (Or.inl ⟨by kernel_rfl,fun w' hS=>?_⟩) hbW ?_
  ·go_simp
  refine wpAnyH_take (i:=15) (v:=.int .i64 (k:Nat)) rfl (by kernel_rfl) (by kernel_rfl) (by kernel_rfl) (fun _ _ _ h=>h) (Or.inl ⟨by kernel_rfl,fun w' hS=>?_⟩) hbW ?_
  ·go_simp
  refine wpAnyH_take (i:=16) (v:=.int .i64 0) rfl (by kernel_rfl) (by kernel_rfl) (by kernel_rfl) (fun _ _ _ h=>h) (Or.inl ⟨by kernel_rfl,fun w' hS=>?_⟩) hbW ?_
  ·go_simp
  refine wpAnyH_ready (rs:=[18]) (by kernel_rfl) (by simp) ?_
  refine AllReadyH.cons rfl (fun K hK=>?_) AllReadyH.nil
  go_simp
  have hS3':=TK.dh hbW (U _) (.int .i64 (t.kind)) (.int .i64 (t.num)) (.string (t.text)) (.bool (t.neg)) (.int .i64 (t.least)) (.int .i64 (t.an)) (.int .i64 (t.bB)) (.int .i64 (t.fold))
  refine hK.out _ _ hS3' (fun hS3=>?_)
  clear hK K
  refine wpAnyH_take (i:=19) (v:=.int .i64 (k:Nat)) rfl (by kernel_rfl) (by kernel_rfl) (by kernel_rfl) (fun _ _ _ h=>h) (Or.inl ⟨by kernel_rfl,fun w' hS=>?_⟩) hS3 ?_
  ·go_simp
  refine wpAnyH_take (i:=20) (v:=.int .i64 0) rfl (by kernel_rfl) (by kernel_rfl) (by kernel_rfl) (fun _ _ _ h=>h) (Or.inl ⟨by kernel_rfl,fun w' hS=>?_⟩) hS3 ?_
  ·go_simp
  refine wpAnyH_done (by kernel_rfl) ?_ _
  have hM3:=TK.aI hM t
  have hM3l:=Nat.le_refl W.heap.size
  obtain⟨w3,hw3⟩:∃w3,w3=((((((((w2.setCell ⟨W.heap.size,0,none⟩ (.int .i64 (t.kind))).setCell ⟨W.heap.size,1,none⟩ (.int .i64 (t.num))).setCell ⟨W.heap.size,2,none⟩ (.string (t.text))).setCell ⟨W.heap.size,3,none⟩ (.bool (t.neg))).setCell ⟨W.heap.size,4,none⟩ (.int .i64 (t.least))).setCell ⟨W.heap.size,5,none⟩ (.int .i64 (t.an))).setCell ⟨W.heap.size,6,none⟩ (.int .i64 (t.bB))).setCell ⟨W.heap.size,7,none⟩ (.int .i64 (t.fold))):=⟨_,rfl⟩
  obtain⟨M,hMM⟩:∃M,M=W.heap.size:=⟨_,rfl⟩
  rw[<- hw3]at hM3 hS3 |-
  rw[<- hMM]at hM3 |-
  replace hM3l:W.heap.size<=M:=by omega
  clear hw3 hMM hbc hS1 hb1 hbW hM g0 g1 g2 g3 g4 g5 g6 g7 gf hS3'
  have hr3:=HR.o.ar hS3
  have HR3:=I hr3
  have hm3:=I (HM.o.trans (Mv.ae hS3))
  obtain⟨c0,c1,c10,c11, -⟩:=hr3.rd
  obtain⟨b2,b3,b4,b5,b6,b7,b8,b9⟩:=hr3.tk
  have f2:=hr3.fr 2
  have f3:=hr3.fr 3
  have f4:=hr3.fr 4
  have f5:=hr3.fr 5
  have f6:=hr3.fr 6
  have f7:=hr3.fr 7
  have f8:=hr3.fr 8
  have f9:=hr3.fr 9
  have f11:=hr3.fr 11
  obtain⟨g0,g1,g2,g3,g4,g5,g6,g7⟩:=TK.ai hM3
  have hMg:¬M=g:=by omega
  have hgM:¬g=M:=by omega
  clear hr3 hS3 hM3 hM3l HD HCl HS HR HM c0 c1
  go_wp2
  go_end0
  refine .inl ⟨_,hE.o,rfl,?_,?_⟩
  ·exact(HR3.o.ob t).set (s':={ s with pos:=p,tok:=t,next:=k }) 11 (.int .i64 (k:Nat)) rfl rfl rfl
  ·exact(nU hm3.o t).setCell 11 _
theorem dq(h:RB w g v l d s nv av)(hn:s.next<=l.length):Calls prog 47 #[.pointer (some ⟨g,0,none⟩)] w fun e w'=>FF (dH d l s) g v l d nv av w e w':=by
 by_cases h1:s.next=l.length
 ·exact wB h h1
 ·cases hR:TK.aQ d l s.next with
  |error z=>exact yy h (by omega) hR
  |ok x=>exact zt h (by omega) (t:=x.1) (k:=x.2) hR
end Go.Proofs.YtklbbbldalmnbaaGreatDoor.Pa
