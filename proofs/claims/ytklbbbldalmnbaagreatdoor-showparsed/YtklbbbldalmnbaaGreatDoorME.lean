import Derived.Test.YtklbbbldalmnbaaGreatDoorMC
import Derived.Test.YtklbbbldalmnbaaGreatDoorKL
import Derived.Deep.RegionHeld3
set_option maxHeartbeats 8000000
set_option linter.unusedVariables false
set_option maxRecDepth 100000
open Go.Proofs.Tryz
namespace Go.Proofs.YtklbbbldalmnbaaGreatDoor.Pa
open Go.RowKit
open TR (Tr NV aP cK aK bb ch)
open TK (Mv bL)
open Br (BE PS aF)
variable {w w' : World} {g : Nat} {v : Value} {l : List Int} {d : Int} {s s' : St} {nv av : Value}
theorem il(h:RB w g v l d s nv av)(o:Int):Calls prog 111 #[.pointer (some ⟨g,0,none⟩),.int .i64 o] w fun e w'=>e=.returned (.bool (bE s o))/\w=w':=by
 have c12:=h.rd.2.2.2.2.1
 have hE:Hid (bE s o=if o=0 then s.aD else decide (0<o)):=rfl
 clear h
 by_cases ho:o=0
 ·have hE2:Hid (bE s o=s.aD):=by show _=_;rw[hE.o,if_pos ho]
  subst ho
  rw[hE2.o]
  go_enter func111,ntmps111
  go_wp2
  go_ret
  exact⟨rfl,rfl⟩
 ·have hE2:Hid (bE s o=decide (0<o)):=by show _=_;rw[hE.o,if_neg ho]
  rw[hE2.o]
  go_enter func111,ntmps111
  go_wp2
  go_ret
  exact⟨rfl,rfl⟩
theorem pz(h:RB w g v l d s nv av):Calls prog 76 #[.pointer (some ⟨g,0,none⟩)] w fun e w'=>e=.returned (.bool (decide (s.pos=l.length)||decide (s.tok.kind=9)||decide (s.tok.kind=8)))/\∃q,w'=w.drewN q:=by
 obtain⟨c0,c1,c10, -⟩:=h.rd
 obtain⟨c2, -⟩:=h.tk
 obtain⟨ao,c,hv⟩:=h.pat.shape
 obtain⟨n,hn⟩:=J l.length
 obtain⟨k,hk⟩:=J s.tok.kind
 obtain⟨p,hp⟩:=J s.pos
 rw[<- hn]at hv |-
 rw[<- hk]at c2 |-
 rw[<- hp]at c10 |-
 rw[hv]at c1
 clear h hn hk hp hv c0
 have e0:(p=n)↔(p:Int)=(n:Int):=by omega
 by_cases h1:p=n
 ·have q1:((p:Int)==(n:Int))=true:=by simp[h1]
  have q2:(decide (p=n))=true:=by simp[h1]
  rw[q2,Bool.true_or,Bool.true_or]
  clear h1 e0 q2
  go_enter func76,ntmps76
  go_wp2
  go_quiet (fail)
  go_wp2
  go_ret
  exact⟨rfl,_,rfl⟩
 ·have q1:((p:Int)==(n:Int))=false:=by simp;omega
  have q2:(decide (p=n))=false:=by simp[h1]
  rw[q2,Bool.false_or]
  clear h1 e0 q2
  by_cases h2:k=9
  ·subst h2
   rw[show (decide ((9:Int)=9)||decide ((9:Int)=8))=true from rfl]
   go_enter func76,ntmps76
   go_wp2
   go_quiet (fail)
   go_wp2
   go_ret
   exact⟨rfl,_,rfl⟩
  ·have q3:(k==9)=false:=by simpa using h2
   have q4:(decide (k=9))=false:=by simpa using h2
   rw[q4,Bool.false_or]
   clear h2 q4
   obtain⟨z,hz⟩:=J ((k==8))
   have hz2:decide (k=8)=z:=by rw[hz];rfl
   rw[hz2]
   have q5:(k==8)=z:=hz.symm
   clear hz hz2
   go_enter func76,ntmps76
   go_wp2
   go_quiet (fail)
   go_wp2
   go_ret
   exact⟨rfl,_,rfl⟩
def oO(w:World)(g:Nat)(t:TK.Tok):World:=(((((((w.setCell ⟨g,2,none⟩ (.int .i64 t.kind)).setCell ⟨g,3,none⟩ (.int .i64 t.num)).setCell ⟨g,4,none⟩ (.string t.text)).setCell ⟨g,5,none⟩ (.bool t.neg)).setCell ⟨g,6,none⟩ (.int .i64 t.least)).setCell ⟨g,7,none⟩ (.int .i64 t.ar)).setCell ⟨g,8,none⟩ (.int .i64 t.bC)).setCell ⟨g,9,none⟩ (.int .i64 t.fold)
theorem RB.oO(h:RB w g v l d s nv av)(t:TK.Tok):RB (oO w g t) g v l d { s with tok:=t } nv av:=by
 have h1:=h.set (s':={ s with tok:={ s.tok with kind:=t.kind } }) 2 (.int .i64 t.kind) rfl rfl rfl
 have h2:=h1.set (s':={ s with tok:={ s.tok with kind:=t.kind,num:=t.num } }) 3 (.int .i64 t.num) rfl rfl rfl
 have h3:=h2.set (s':={ s with tok:={ s.tok with kind:=t.kind,num:=t.num,text:=t.text } }) 4 (.string t.text) rfl rfl rfl
 have h4:=h3.set (s':={ s with tok:={ s.tok with kind:=t.kind,num:=t.num,text:=t.text,neg:=t.neg } }) 5 (.bool t.neg) rfl rfl rfl
 have h5:=h4.set (s':={ s with tok:={ s.tok with kind:=t.kind,num:=t.num,text:=t.text,neg:=t.neg,least:=t.least } }) 6 (.int .i64 t.least) rfl rfl rfl
 have h6:=h5.set (s':={ s with tok:={ s.tok with kind:=t.kind,num:=t.num,text:=t.text,neg:=t.neg,least:=t.least,ar:=t.ar } }) 7 (.int .i64 t.ar) rfl rfl rfl
 have h7:=h6.set (s':={ s with tok:={ s.tok with kind:=t.kind,num:=t.num,text:=t.text,neg:=t.neg,least:=t.least,ar:=t.ar,bC:=t.bC } }) 8 (.int .i64 t.bC) rfl rfl rfl
 exact h7.set (s':={ s with tok:=t }) 9 (.int .i64 t.fold) rfl rfl rfl
theorem oG{w0:World}(h:Mv g w0 w)(t:TK.Tok):Mv g w0 (oO w g t):=
 (((((((h.setCell 2 _).setCell 3 _).setCell 4 _).setCell 5 _).setCell 6 _).setCell 7 _).setCell 8 _).setCell 9 _
theorem vw(h:RB w g v l d s nv av)(hn:s.next=l.length):Calls prog 47 #[.pointer (some ⟨g,0,none⟩)] w fun e w'=>Gu (dF d l s) g v l d nv av w e w':=by
 have hE:Hid (dF d l s=.ok { s with pos:=s.next,tok:={} }):=by show _=_;unfold dF;rw[if_pos hn]
 have HR:Hid (RB (w.setCell ⟨g,10,none⟩ (.int .i64 (s.next:Nat))) g v l d { s with pos:=s.next } nv av):=h.set 10 _ rfl rfl rfl
 obtain⟨c0,c1,c10,c11, -⟩:=h.rd
 have hf:=h.fr
 obtain⟨ao,c,hv⟩:=h.pat.shape
 have f10:=hf 10
 have f2:=hf 2
 have f3:=hf 3
 have f4:=hf 4
 have f5:=hf 5
 have f6:=hf 6
 have f7:=hf 7
 have f8:=hf 8
 have f9:=hf 9
 have hg:=h.lt
 obtain⟨p,hp⟩:=J s.next
 rw[<- hp]at hn hE HR c11
 rw[<- hn]at hv
 have HVV:=I hv
 obtain⟨c2,c3,c4,c5,c6,c7,c8,c9⟩:=h.tk
 rw[hv]at c1
 clear h hn hv hp hf c0
 go_enter func47,ntmps47
 go_wp2
 go_quiet (fail)
 go_wp2
 refine bodyPost_ret (results_none rfl _ _ _) rfl ?_
 refine .inl ⟨_,hE.o,rfl,?_,?_⟩
 ·exact(HR.o.drewN nq).oO {}
 ·exact oG (((Mv.refl g w).setCell 10 _).drewN nq) {}
variable {w w' : World} {g : Nat} {v : Value} {l : List Int} {d : Int} {s s' : St} {nv av : Value}
theorem tC(hp:TK.bK d l=0){i:Nat}(hi:i<l.length):TK.fO d l i=TK.aV d l i:=by
 unfold TK.fO
 rw[if_neg (by simp[hp]),if_neg (by omega)]
 simp
theorem JJ(hp:TK.bK d l=0){i:Nat}{z:Int}(h:TK.aV d l i=.error z):z≠0:=by
 have:=TK.nG h
 unfold TK.oX at this
 omega
theorem yJ(h:RB w g v l d s nv av)(hn:s.next<l.length){z:Int}(hR:TK.aV d l s.next=.error z):Calls prog 47 #[.pointer (some ⟨g,0,none⟩)] w fun e w'=>Gu (dF d l s) g v l d nv av w e w':=by
 have hE:Hid (dF d l s=.error (z,(s.next:Int))):=by show _=_;unfold dF;rw[if_neg (by omega),hR]
 have q1:(z !=0)=true:=by simpa using JJ h.pe hR
 have hR2:=tC h.pe hn
 rw[hR]at hR2
 have h0:RB (w.setCell ⟨g,10,none⟩ (.int .i64 (s.next:Nat))) g v l d { s with pos:=s.next } nv av:=h.set 10 _ rfl rfl rfl
 have HR0:=I h0
 obtain⟨p,hp⟩:=J s.next
 have HX:Hid (∀W,RB W g v l d { s with pos:=s.next } nv av->∀Wc,Below W.heap.size W Wc->Calls prog 65 #[.int .i64 d,v,.int .i64 (p:Nat)] Wc fun e w2=>e=.returned (.tuple #[TK.bh ({}:TK.Tok),.int .i64 0,.int .i64 z])/\Below W.heap.size W w2/\Below Wc.heap.size Wc w2):=by
  intro W hW Wc hWc
  have:=TK.iE d (p:Int) v l Wc (hW.ax hWc).pat
  rw[hp,hR2]at this
  rw[hp]
  refine this.mono ?_
  rintro e w2 (⟨t',k',hR',he,hkl,hb⟩|⟨z',hR',he,hb⟩)
  ·cases hR'
  ·cases hR'
   exact⟨he,hWc.aq hb,hb⟩
 obtain⟨c0,c1,c10,c11, -⟩:=h.rd
 have f10:=h.fr 10
 obtain⟨ao,c,hv⟩:=h.pat.shape
 obtain⟨n,hnn⟩:=J l.length
 have hgw:=h.lt
 have qn:((p:Int)==(n:Int))=false:=by simp;omega
 have qn2:¬(p:Int)=(n:Int):=by omega
 rw[<- hp]at c11 HR0 hE HX
 rw[<- hnn]at hv
 have HV:=I hv
 rw[hv]at c1
 clear h h0 hn hv hR2 hR hnn
 have HP:=I hp
 clear hp
 go_enter func47,ntmps47
 go_wp2
 go_quiet (fail)
 go_wp2_with fail
 go_upto_region 3 with fail
 obtain⟨W,hW⟩:=J ((w.setCell ⟨g,10,none⟩ (.int .i64 (p:Nat))).drewN nq)
 have hr:RB W g v l d { s with pos:=p,next:=p } nv av:=by rw[hW];exact HR0.o.drewN nq
 have hm:Mv g w W:=by rw[hW];exact((Mv.refl g w).setCell 10 _).drewN nq
 rw[<- hW]
 have HR:=I hr
 have HM:=I hm
 have HD:=I (HX.o W hr)
 have hgW:=hr.lt
 rw[HV.o]at HD
 simp only[TK.bh]at HD
 have HS:Hid (Below W.heap.size W W.drew):=⟨rfl,rfl,rfl,ai _,fun _ _=>rfl⟩
 have HCl:Hid (∀w',Below W.heap.size W w'->w'.cell? ⟨g,0,none⟩=some (.int .i64 d)/\w'.cell? ⟨g,1,none⟩=some (.slice ao n c)/\w'.cell? ⟨g,10,none⟩=some (.int .i64 (p:Nat))):=fun w' hS=>by
  obtain⟨y0,y1,y2, -⟩:=(HR.o.ax hS).rd
  rw[HV.o]at y1
  exact⟨y0,y1,y2⟩
 clear hW hr hm HX HR0 c0 c1 c10 c11 f10 qn qn2 hgw
 refine wp_region_held (S:=fun w'=>Below W.heap.size W w') (by kernel_rfl) ?_
 change wpAnyH _ _ _ _ _ _ _ _ (World.drew _)
 refine au 0 (.pointer (some ⟨g,0,none⟩)) rfl (fun _ _ _ h=>h) HS.o (fun w' hS=>?_) ?_
 ·go_simp
 refine au 1 (.pointer (some ⟨g,0,none⟩)) rfl (fun _ _ _ h=>h) HS.o (fun w' hS=>?_) ?_
 ·go_simp
 refine au 2 (.pointer (some ⟨g,0,none⟩)) rfl (fun _ _ _ h=>h) HS.o (fun w' hS=>?_) ?_
 ·go_simp
 refine au 3 (.int .i64 d) rfl (fun _ _ _ h=>h) HS.o (fun w' hS=>?_) ?_
 ·(obtain⟨y0,y1,y2⟩:=HCl.o w' hS;go_simp)
 refine au 4 (.pointer (some ⟨g,0,none⟩)) rfl (fun _ _ _ h=>h) HS.o (fun w' hS=>?_) ?_
 ·go_simp
 refine au 5 (.pointer (some ⟨g,0,none⟩)) rfl (fun _ _ _ h=>h) HS.o (fun w' hS=>?_) ?_
 ·go_simp
 refine au 6 (.pointer (some ⟨g,1,none⟩)) rfl (fun _ _ _ h=>h) HS.o (fun w' hS=>?_) ?_
 ·go_simp
 refine au 7 (.slice ao n c) rfl (fun _ _ _ h=>h) HS.o (fun w' hS=>?_) ?_
 ·(obtain⟨y0,y1,y2⟩:=HCl.o w' hS;go_simp)
 refine au 8 (.pointer (some ⟨g,0,none⟩)) rfl (fun _ _ _ h=>h) HS.o (fun w' hS=>?_) ?_
 ·go_simp
 refine au 9 (.pointer (some ⟨g,0,none⟩)) rfl (fun _ _ _ h=>h) HS.o (fun w' hS=>?_) ?_
 ·go_simp
 refine au 10 (.pointer (some ⟨g,10,none⟩)) rfl (fun _ _ _ h=>h) HS.o (fun w' hS=>?_) ?_
 ·go_simp
 refine au 11 (.int .i64 (p:Nat)) rfl (fun _ _ _ h=>h) HS.o (fun w' hS=>?_) ?_
 ·(obtain⟨y0,y1,y2⟩:=HCl.o w' hS;go_simp)
 refine wpAnyH_ready (rs:=[12,17]) (by kernel_rfl) (by simp) ?_
 refine AllReadyH.cons rfl (fun K hK=>?_) (AllReadyH.cons rfl (fun K hK=>?_) AllReadyH.nil)
 ·go_simp
  refine(HD.o _ HS.o).mono ?_
  rintro e w2 ⟨rfl,hbW,hbc⟩
  refine hK.out _ _ hbW (fun _=>?_)
  clear hK K
  refine au 13 (.tuple #[.agg #[.int .i64 (0),.int .i64 (0),.string (⟨#[]⟩),.bool (false),.int .i64 (0),.int .i64 (0),.int .i64 (0),.int .i64 (0)],.int .i64 0,.int .i64 z]) rfl (fun _ _ _ h=>h) hbW (fun w' hS=>?_) ?_
  ·go_simp
  refine au 14 (.agg #[.int .i64 (0),.int .i64 (0),.string (⟨#[]⟩),.bool (false),.int .i64 (0),.int .i64 (0),.int .i64 (0),.int .i64 (0)]) rfl (fun _ _ _ h=>h) hbW (fun w' hS=>?_) ?_
  ·go_simp
  refine au 15 (.int .i64 0) rfl (fun _ _ _ h=>h) hbW (fun w' hS=>?_) ?_
  ·go_simp
  refine au 16 (.int .i64 z) rfl (fun _ _ _ h=>h) hbW (fun w' hS=>?_) ?_
  ·go_simp
  refine wpAnyH_ready (rs:=[17]) (by kernel_rfl) (by simp) ?_
  refine AllReadyH.cons rfl (fun K hK=>?_) AllReadyH.nil
  go_simp
  refine hK.out _ _ (hbW.alloc hbW.size _) (fun hS2=>?_)
  clear hK K
  refine wpAnyH_ready (rs:=[18]) (by kernel_rfl) (by simp) ?_
  refine AllReadyH.cons rfl (fun K hK=>?_) AllReadyH.nil
  go_simp
  refine hK.out _ _ (hbW.alloc hbW.size _) (fun hS3=>?_)
  clear hK K
  refine au 19 (.int .i64 0) rfl (fun _ _ _ h=>h) hS3 (fun w' hS=>?_) ?_
  ·go_simp
  refine au 20 (.int .i64 z) rfl (fun _ _ _ h=>h) hS3 (fun w' hS=>?_) ?_
  ·go_simp
  refine wpAnyH_done (by kernel_rfl) ?_ _
  have hM3:=TK.aj w2 (TK.aw ({}:TK.Tok))
  have hM3l:=hbW.size
  obtain⟨w3,hw3⟩:=J (w2.alloc (TK.aw ({}:TK.Tok)))
  obtain⟨M,hMM⟩:=J w2.heap.size
  rw[<- hw3]at hM3
  simp only[TK.aw]at hw3
  rw[<- hw3]at hS3 |-
  rw[<- hMM]at hM3 hM3l |-
  clear hw3 hMM hbc hS2 hbW
  have hr3:=HR.o.ax hS3
  have HR3:=I hr3
  have hm3:=I (HM.o.trans (Mv.U hS3))
  obtain⟨c0,c1,c10,c11, -⟩:=hr3.rd
  obtain⟨b2,b3,b4,b5,b6,b7,b8,b9⟩:=hr3.tk
  have f2:=hr3.fr 2
  have f3:=hr3.fr 3
  have f4:=hr3.fr 4
  have f5:=hr3.fr 5
  have f6:=hr3.fr 6
  have f7:=hr3.fr 7
  have f8:=hr3.fr 8
  have f9:=hr3.fr 9
  have f11:=hr3.fr 11
  obtain⟨g0,g1,g2,g3,g4,g5,g6,g7⟩:=TK.ae hM3
  have hMg:¬M=g:=by omega
  have hgM:¬g=M:=by omega
  clear hr3 hS3 hM3 hM3l HD HCl HS HR HM c0 c1
  have HG:=I (aS z (p:Int) w3)
  simp only[aF]at HG
  go_wp2_with fail
  refine HG.o.mono ?_
  rintro e w4 ⟨rfl,rfl⟩
  go_wp2
  exact⟨rfl,.inr ⟨z,(p:Int),hE.o,rfl,hm3.o⟩⟩
 ·go_simp
  have hb1:Below W.heap.size W (W.alloc (TK.aw {})).drew:=(an W _).drew
  refine hK.out _ _ hb1 (fun hS1=>?_)
  clear hK K
  refine wpAnyH_ready (rs:=[12]) (by kernel_rfl) (by simp) ?_
  refine AllReadyH.cons rfl (fun K hK=>?_) AllReadyH.nil
  go_simp
  refine(HD.o _ hS1).mono ?_
  rintro e w2 ⟨rfl,hbW,hbc⟩
  have hM:w2.heap[W.heap.size]? =some (TK.aw {}):=by rw[hbc.block _ (by show _<(W.alloc _).heap.size;simp)];exact TK.aj _ _
  obtain⟨g0,g1,g2,g3,g4,g5,g6,g7⟩:=TK.ae hM
  have gf:=TK.aC hM
  refine hK.out _ _ hbW (fun _=>?_)
  clear hK K
  refine au 13 (.tuple #[.agg #[.int .i64 (0),.int .i64 (0),.string (⟨#[]⟩),.bool (false),.int .i64 (0),.int .i64 (0),.int .i64 (0),.int .i64 (0)],.int .i64 0,.int .i64 z]) rfl (fun _ _ _ h=>h) hbW (fun w' hS=>?_) ?_
  ·go_simp
  refine au 14 (.agg #[.int .i64 (0),.int .i64 (0),.string (⟨#[]⟩),.bool (false),.int .i64 (0),.int .i64 (0),.int .i64 (0),.int .i64 (0)]) rfl (fun _ _ _ h=>h) hbW (fun w' hS=>?_) ?_
  ·go_simp
  refine au 15 (.int .i64 0) rfl (fun _ _ _ h=>h) hbW (fun w' hS=>?_) ?_
  ·go_simp
  refine au 16 (.int .i64 z) rfl (fun _ _ _ h=>h) hbW (fun w' hS=>?_) ?_
  ·go_simp
  refine wpAnyH_ready (rs:=[18]) (by kernel_rfl) (by simp) ?_
  refine AllReadyH.cons rfl (fun K hK=>?_) AllReadyH.nil
  go_simp
  have hS3':=TK.dw hbW (ai _) (.int .i64 (0)) (.int .i64 (0)) (.string (⟨#[]⟩)) (.bool (false)) (.int .i64 (0)) (.int .i64 (0)) (.int .i64 (0)) (.int .i64 (0))
  refine hK.out _ _ hS3' (fun hS3=>?_)
  clear hK K
  refine au 19 (.int .i64 0) rfl (fun _ _ _ h=>h) hS3 (fun w' hS=>?_) ?_
  ·go_simp
  refine au 20 (.int .i64 z) rfl (fun _ _ _ h=>h) hS3 (fun w' hS=>?_) ?_
  ·go_simp
  refine wpAnyH_done (by kernel_rfl) ?_ _
  have hM3:=TK.aM hM ({}:TK.Tok)
  have hM3l:=Nat.le_refl W.heap.size
  obtain⟨w3,hw3⟩:=J (((((((((w2.setCell ⟨W.heap.size,0,none⟩ (.int .i64 (0))).setCell ⟨W.heap.size,1,none⟩ (.int .i64 (0))).setCell ⟨W.heap.size,2,none⟩ (.string (⟨#[]⟩))).setCell ⟨W.heap.size,3,none⟩ (.bool (false))).setCell ⟨W.heap.size,4,none⟩ (.int .i64 (0))).setCell ⟨W.heap.size,5,none⟩ (.int .i64 (0))).setCell ⟨W.heap.size,6,none⟩ (.int .i64 (0))).setCell ⟨W.heap.size,7,none⟩ (.int .i64 (0))))
  obtain⟨M,hMM⟩:=J W.heap.size
  rw[<- hw3]at hM3 hS3 |-
  rw[<- hMM]at hM3 |-
  replace hM3l:W.heap.size<=M:=by omega
  clear hw3 hMM hbc hS1 hb1 hbW hM g0 g1 g2 g3 g4 g5 g6 g7 gf hS3'
  have hr3:=HR.o.ax hS3
  have HR3:=I hr3
  have hm3:=I (HM.o.trans (Mv.U hS3))
  obtain⟨c0,c1,c10,c11, -⟩:=hr3.rd
  obtain⟨b2,b3,b4,b5,b6,b7,b8,b9⟩:=hr3.tk
  have f2:=hr3.fr 2
  have f3:=hr3.fr 3
  have f4:=hr3.fr 4
  have f5:=hr3.fr 5
  have f6:=hr3.fr 6
  have f7:=hr3.fr 7
  have f8:=hr3.fr 8
  have f9:=hr3.fr 9
  have f11:=hr3.fr 11
  obtain⟨g0,g1,g2,g3,g4,g5,g6,g7⟩:=TK.ae hM3
  have hMg:¬M=g:=by omega
  have hgM:¬g=M:=by omega
  clear hr3 hS3 hM3 hM3l HD HCl HS HR HM c0 c1
  have HG:=I (aS z (p:Int) w3)
  simp only[aF]at HG
  go_wp2_with fail
  refine HG.o.mono ?_
  rintro e w4 ⟨rfl,rfl⟩
  go_wp2
  exact⟨rfl,.inr ⟨z,(p:Int),hE.o,rfl,hm3.o⟩⟩
theorem yK(h:RB w g v l d s nv av)(hn:s.next<l.length){t:TK.Tok}{k:Nat}(hR:TK.aV d l s.next=.ok (t,k)):Calls prog 47 #[.pointer (some ⟨g,0,none⟩)] w fun e w'=>Gu (dF d l s) g v l d nv av w e w':=by
 have hE:Hid (dF d l s=.ok { s with pos:=s.next,tok:=t,next:=k }):=by show _=_;unfold dF;rw[if_neg (by omega),hR]
 have hR2:=tC h.pe hn
 rw[hR]at hR2
 have h0:RB (w.setCell ⟨g,10,none⟩ (.int .i64 (s.next:Nat))) g v l d { s with pos:=s.next } nv av:=h.set 10 _ rfl rfl rfl
 have HR0:=I h0
 obtain⟨p,hp⟩:=J s.next
 have HX:Hid (∀W,RB W g v l d { s with pos:=s.next } nv av->∀Wc,Below W.heap.size W Wc->Calls prog 65 #[.int .i64 d,v,.int .i64 (p:Nat)] Wc fun e w2=>e=.returned (.tuple #[TK.bh t,.int .i64 (k:Nat),.int .i64 0])/\Below W.heap.size W w2/\Below Wc.heap.size Wc w2):=by
  intro W hW Wc hWc
  have:=TK.iE d (p:Int) v l Wc (hW.ax hWc).pat
  rw[hp,hR2]at this
  rw[hp]
  refine this.mono ?_
  rintro e w2 (⟨t',k',hR',he,hkl,hb⟩|⟨z',hR',he,hb⟩)
  ·cases hR'
   exact⟨he,hWc.aq hb,hb⟩
  ·cases hR'
 obtain⟨c0,c1,c10,c11, -⟩:=h.rd
 have f10:=h.fr 10
 obtain⟨ao,c,hv⟩:=h.pat.shape
 obtain⟨n,hnn⟩:=J l.length
 have hgw:=h.lt
 have qn:((p:Int)==(n:Int))=false:=by simp;omega
 have qn2:¬(p:Int)=(n:Int):=by omega
 rw[<- hp]at c11 HR0 hE HX
 rw[<- hnn]at hv
 have HV:=I hv
 rw[hv]at c1
 clear h h0 hn hv hR2 hR hnn
 have HP:=I hp
 clear hp
 go_enter func47,ntmps47
 go_wp2
 go_quiet (fail)
 go_wp2_with fail
 go_upto_region 3 with fail
 obtain⟨W,hW⟩:=J ((w.setCell ⟨g,10,none⟩ (.int .i64 (p:Nat))).drewN nq)
 have hr:RB W g v l d { s with pos:=p,next:=p } nv av:=by rw[hW];exact HR0.o.drewN nq
 have hm:Mv g w W:=by rw[hW];exact((Mv.refl g w).setCell 10 _).drewN nq
 rw[<- hW]
 have HR:=I hr
 have HM:=I hm
 have HD:=I (HX.o W hr)
 have hgW:=hr.lt
 rw[HV.o]at HD
 simp only[TK.bh]at HD
 have HS:Hid (Below W.heap.size W W.drew):=⟨rfl,rfl,rfl,ai _,fun _ _=>rfl⟩
 have HCl:Hid (∀w',Below W.heap.size W w'->w'.cell? ⟨g,0,none⟩=some (.int .i64 d)/\w'.cell? ⟨g,1,none⟩=some (.slice ao n c)/\w'.cell? ⟨g,10,none⟩=some (.int .i64 (p:Nat))):=fun w' hS=>by
  obtain⟨y0,y1,y2, -⟩:=(HR.o.ax hS).rd
  rw[HV.o]at y1
  exact⟨y0,y1,y2⟩
 clear hW hr hm HX HR0 c0 c1 c10 c11 f10 qn qn2 hgw
 refine wp_region_held (S:=fun w'=>Below W.heap.size W w') (by kernel_rfl) ?_
 change wpAnyH _ _ _ _ _ _ _ _ (World.drew _)
 refine au 0 (.pointer (some ⟨g,0,none⟩)) rfl (fun _ _ _ h=>h) HS.o (fun w' hS=>?_) ?_
 ·go_simp
 refine au 1 (.pointer (some ⟨g,0,none⟩)) rfl (fun _ _ _ h=>h) HS.o (fun w' hS=>?_) ?_
 ·go_simp
 refine au 2 (.pointer (some ⟨g,0,none⟩)) rfl (fun _ _ _ h=>h) HS.o (fun w' hS=>?_) ?_
 ·go_simp
 refine au 3 (.int .i64 d) rfl (fun _ _ _ h=>h) HS.o (fun w' hS=>?_) ?_
 ·(obtain⟨y0,y1,y2⟩:=HCl.o w' hS;go_simp)
 refine au 4 (.pointer (some ⟨g,0,none⟩)) rfl (fun _ _ _ h=>h) HS.o (fun w' hS=>?_) ?_
 ·go_simp
 refine au 5 (.pointer (some ⟨g,0,none⟩)) rfl (fun _ _ _ h=>h) HS.o (fun w' hS=>?_) ?_
 ·go_simp
 refine au 6 (.pointer (some ⟨g,1,none⟩)) rfl (fun _ _ _ h=>h) HS.o (fun w' hS=>?_) ?_
 ·go_simp
 refine au 7 (.slice ao n c) rfl (fun _ _ _ h=>h) HS.o (fun w' hS=>?_) ?_
 ·(obtain⟨y0,y1,y2⟩:=HCl.o w' hS;go_simp)
 refine au 8 (.pointer (some ⟨g,0,none⟩)) rfl (fun _ _ _ h=>h) HS.o (fun w' hS=>?_) ?_
 ·go_simp
 refine au 9 (.pointer (some ⟨g,0,none⟩)) rfl (fun _ _ _ h=>h) HS.o (fun w' hS=>?_) ?_
 ·go_simp
 refine au 10 (.pointer (some ⟨g,10,none⟩)) rfl (fun _ _ _ h=>h) HS.o (fun w' hS=>?_) ?_
 ·go_simp
 refine au 11 (.int .i64 (p:Nat)) rfl (fun _ _ _ h=>h) HS.o (fun w' hS=>?_) ?_
 ·(obtain⟨y0,y1,y2⟩:=HCl.o w' hS;go_simp)
 refine wpAnyH_ready (rs:=[12,17]) (by kernel_rfl) (by simp) ?_
 refine AllReadyH.cons rfl (fun K hK=>?_) (AllReadyH.cons rfl (fun K hK=>?_) AllReadyH.nil)
 ·go_simp
  refine(HD.o _ HS.o).mono ?_
  rintro e w2 ⟨rfl,hbW,hbc⟩
  refine hK.out _ _ hbW (fun _=>?_)
  clear hK K
  refine au 13 (.tuple #[.agg #[.int .i64 (t.kind),.int .i64 (t.num),.string (t.text),.bool (t.neg),.int .i64 (t.least),.int .i64 (t.ar),.int .i64 (t.bC),.int .i64 (t.fold)],.int .i64 (k:Nat),.int .i64 0]) rfl (fun _ _ _ h=>h) hbW (fun w' hS=>?_) ?_
  ·go_simp
  refine au 14 (.agg #[.int .i64 (t.kind),.int .i64 (t.num),.string (t.text),.bool (t.neg),.int .i64 (t.least),.int .i64 (t.ar),.int .i64 (t.bC),.int .i64 (t.fold)]) rfl (fun _ _ _ h=>h) hbW (fun w' hS=>?_) ?_
  ·go_simp
  refine au 15 (.int .i64 (k:Nat)) rfl (fun _ _ _ h=>h) hbW (fun w' hS=>?_) ?_
  ·go_simp
  refine au 16 (.int .i64 0) rfl (fun _ _ _ h=>h) hbW (fun w' hS=>?_) ?_
  ·go_simp
  refine wpAnyH_ready (rs:=[17]) (by kernel_rfl) (by simp) ?_
  refine AllReadyH.cons rfl (fun K hK=>?_) AllReadyH.nil
  go_simp
  refine hK.out _ _ (hbW.alloc hbW.size _) (fun hS2=>?_)
  clear hK K
  refine wpAnyH_ready (rs:=[18]) (by kernel_rfl) (by simp) ?_
  refine AllReadyH.cons rfl (fun K hK=>?_) AllReadyH.nil
  go_simp
  refine hK.out _ _ (hbW.alloc hbW.size _) (fun hS3=>?_)
  clear hK K
  refine au 19 (.int .i64 (k:Nat)) rfl (fun _ _ _ h=>h) hS3 (fun w' hS=>?_) ?_
  ·go_simp
  refine au 20 (.int .i64 0) rfl (fun _ _ _ h=>h) hS3 (fun w' hS=>?_) ?_
  ·go_simp
  refine wpAnyH_done (by kernel_rfl) ?_ _
  have hM3:=TK.aj w2 (TK.aw t)
  have hM3l:=hbW.size
  obtain⟨w3,hw3⟩:=J (w2.alloc (TK.aw t))
  obtain⟨M,hMM⟩:=J w2.heap.size
  rw[<- hw3]at hM3
  simp only[TK.aw]at hw3
  rw[<- hw3]at hS3 |-
  rw[<- hMM]at hM3 hM3l |-
  clear hw3 hMM hbc hS2 hbW
  have hr3:=HR.o.ax hS3
  have HR3:=I hr3
  have hm3:=I (HM.o.trans (Mv.U hS3))
  obtain⟨c0,c1,c10,c11, -⟩:=hr3.rd
  obtain⟨b2,b3,b4,b5,b6,b7,b8,b9⟩:=hr3.tk
  have f2:=hr3.fr 2
  have f3:=hr3.fr 3
  have f4:=hr3.fr 4
  have f5:=hr3.fr 5
  have f6:=hr3.fr 6
  have f7:=hr3.fr 7
  have f8:=hr3.fr 8
  have f9:=hr3.fr 9
  have f11:=hr3.fr 11
  obtain⟨g0,g1,g2,g3,g4,g5,g6,g7⟩:=TK.ae hM3
  have hMg:¬M=g:=by omega
  have hgM:¬g=M:=by omega
  clear hr3 hS3 hM3 hM3l HD HCl HS HR HM c0 c1
  go_wp2
  go_end0
  refine .inl ⟨_,hE.o,rfl,?_,?_⟩
  ·exact(HR3.o.oO t).set (s':={ s with pos:=p,tok:=t,next:=k }) 11 (.int .i64 (k:Nat)) rfl rfl rfl
  ·exact(oG hm3.o t).setCell 11 _
 ·go_simp
  have hb1:Below W.heap.size W (W.alloc (TK.aw {})).drew:=(an W _).drew
  refine hK.out _ _ hb1 (fun hS1=>?_)
  clear hK K
  refine wpAnyH_ready (rs:=[12]) (by kernel_rfl) (by simp) ?_
  refine AllReadyH.cons rfl (fun K hK=>?_) AllReadyH.nil
  go_simp
  refine(HD.o _ hS1).mono ?_
  rintro e w2 ⟨rfl,hbW,hbc⟩
  have hM:w2.heap[W.heap.size]? =some (TK.aw {}):=by rw[hbc.block _ (by show _<(W.alloc _).heap.size;simp)];exact TK.aj _ _
  obtain⟨g0,g1,g2,g3,g4,g5,g6,g7⟩:=TK.ae hM
  have gf:=TK.aC hM
  refine hK.out _ _ hbW (fun _=>?_)
  clear hK K
  refine au 13 (.tuple #[.agg #[.int .i64 (t.kind),.int .i64 (t.num),.string (t.text),.bool (t.neg),.int .i64 (t.least),.int .i64 (t.ar),.int .i64 (t.bC),.int .i64 (t.fold)],.int .i64 (k:Nat),.int .i64 0]) rfl (fun _ _ _ h=>h) hbW (fun w' hS=>?_) ?_
  ·go_simp
  refine au 14 (.agg #[.int .i64 (t.kind),.int .i64 (t.num),.string (t.text),.bool (t.neg),.int .i64 (t.least),.int .i64 (t.ar),.int .i64 (t.bC),.int .i64 (t.fold)]) rfl (fun _ _ _ h=>h) hbW (fun w' hS=>?_) ?_
  ·go_simp
  refine au 15 (.int .i64 (k:Nat)) rfl (fun _ _ _ h=>h) hbW (fun w' hS=>?_) ?_
  ·go_simp
  refine au 16 (.int .i64 0) rfl (fun _ _ _ h=>h) hbW (fun w' hS=>?_) ?_
  ·go_simp
  refine wpAnyH_ready (rs:=[18]) (by kernel_rfl) (by simp) ?_
  refine AllReadyH.cons rfl (fun K hK=>?_) AllReadyH.nil
  go_simp
  have hS3':=TK.dw hbW (ai _) (.int .i64 (t.kind)) (.int .i64 (t.num)) (.string (t.text)) (.bool (t.neg)) (.int .i64 (t.least)) (.int .i64 (t.ar)) (.int .i64 (t.bC)) (.int .i64 (t.fold))
  refine hK.out _ _ hS3' (fun hS3=>?_)
  clear hK K
  refine au 19 (.int .i64 (k:Nat)) rfl (fun _ _ _ h=>h) hS3 (fun w' hS=>?_) ?_
  ·go_simp
  refine au 20 (.int .i64 0) rfl (fun _ _ _ h=>h) hS3 (fun w' hS=>?_) ?_
  ·go_simp
  refine wpAnyH_done (by kernel_rfl) ?_ _
  have hM3:=TK.aM hM t
  have hM3l:=Nat.le_refl W.heap.size
  obtain⟨w3,hw3⟩:=J (((((((((w2.setCell ⟨W.heap.size,0,none⟩ (.int .i64 (t.kind))).setCell ⟨W.heap.size,1,none⟩ (.int .i64 (t.num))).setCell ⟨W.heap.size,2,none⟩ (.string (t.text))).setCell ⟨W.heap.size,3,none⟩ (.bool (t.neg))).setCell ⟨W.heap.size,4,none⟩ (.int .i64 (t.least))).setCell ⟨W.heap.size,5,none⟩ (.int .i64 (t.ar))).setCell ⟨W.heap.size,6,none⟩ (.int .i64 (t.bC))).setCell ⟨W.heap.size,7,none⟩ (.int .i64 (t.fold))))
  obtain⟨M,hMM⟩:=J W.heap.size
  rw[<- hw3]at hM3 hS3 |-
  rw[<- hMM]at hM3 |-
  replace hM3l:W.heap.size<=M:=by omega
  clear hw3 hMM hbc hS1 hb1 hbW hM g0 g1 g2 g3 g4 g5 g6 g7 gf hS3'
  have hr3:=HR.o.ax hS3
  have HR3:=I hr3
  have hm3:=I (HM.o.trans (Mv.U hS3))
  obtain⟨c0,c1,c10,c11, -⟩:=hr3.rd
  obtain⟨b2,b3,b4,b5,b6,b7,b8,b9⟩:=hr3.tk
  have f2:=hr3.fr 2
  have f3:=hr3.fr 3
  have f4:=hr3.fr 4
  have f5:=hr3.fr 5
  have f6:=hr3.fr 6
  have f7:=hr3.fr 7
  have f8:=hr3.fr 8
  have f9:=hr3.fr 9
  have f11:=hr3.fr 11
  obtain⟨g0,g1,g2,g3,g4,g5,g6,g7⟩:=TK.ae hM3
  have hMg:¬M=g:=by omega
  have hgM:¬g=M:=by omega
  clear hr3 hS3 hM3 hM3l HD HCl HS HR HM c0 c1
  go_wp2
  go_end0
  refine .inl ⟨_,hE.o,rfl,?_,?_⟩
  ·exact(HR3.o.oO t).set (s':={ s with pos:=p,tok:=t,next:=k }) 11 (.int .i64 (k:Nat)) rfl rfl rfl
  ·exact(oG hm3.o t).setCell 11 _
theorem dC(h:RB w g v l d s nv av)(hn:s.next<=l.length):Calls prog 47 #[.pointer (some ⟨g,0,none⟩)] w fun e w'=>Gu (dF d l s) g v l d nv av w e w':=by
 by_cases h1:s.next=l.length
 ·exact vw h h1
 ·cases hR:TK.aV d l s.next with
  |error z=>exact yJ h (by omega) hR
  |ok x=>exact yK h (by omega) (t:=x.1) (k:=x.2) hR
end Go.Proofs.YtklbbbldalmnbaaGreatDoor.Pa
