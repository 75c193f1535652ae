import Derived.Test.YtklbbbldalmnbaaGreatDoorKW
import Derived.StillTailTactics
set_option maxHeartbeats 4000000
set_option linter.unusedVariables false
set_option maxRecDepth 100000
open Go.Proofs.Tryz
namespace Go.Proofs.YtklbbbldalmnbaaGreatDoor.Br
open Go.RowKit
open TK (Mv bJ bU bE aS)
variable {w w' : World} {b : Nat} {v : Value} {l : List Int} {i : Nat} {d : Int} {fo : Bool}
def KF(x:Wd)(t:TK.Tok):Prop:=match x with| .pt p=>t.kind=1/\t.num=p| .cls s no=>t.kind=4/\t.text=s/\t.neg=no
def ru(R:Except BE (Wd×Nat))(b:Nat)(v:Value)(l:List Int)(i:Nat)(d:Int)(fo:Bool)(w:World)(e:Ending)(w':World):Prop:=
 (∃x k t,R=.ok (x,k)/\e=.returned (TK.aZ t)/\KF x t/\(t.kind=1->0<=t.num/\t.num<=1114111)/\BB w' b v l k d fo/\i<k/\Mv b w w')\/(∃z:Int,R=.error (z,(i:Int))/\e=aw z i/\Mv b w w')
theorem Cx(h:l.length<=i):dJ (par d fo) l i=.error (1,(i:Int)):=by
 unfold dJ
 rw[List.getElem?_eq_none h]
theorem Af(h:i<l.length)(hz:((d==1)&&aX l i [92])=false):dJ (par d fo) l i=.ok (.pt l[i],i+1):=by
 unfold dJ
 rw[List.getElem?_eq_getElem h]
 show(if ((d==1)&&aX l i [92])=true then _ else _)=_
 rw[hz]
 rfl
theorem mO(h:i<l.length)(hz:((d==1)&&aX l i [92])=true):dJ (par d fo) l i=match jU (TK.aQ 1 l i)with| .error e=>.error (e,(i:Int))| .ok x=>.ok x:=by
 unfold dJ
 rw[List.getElem?_eq_getElem h]
 show(if ((d==1)&&aX l i [92])=true then _ else _)=_
 rw[hz]
 rfl
theorem EB(h:BB w b v l i d fo)(hi:l.length<=i):Calls prog 220 #[.pointer (some ⟨b,0,none⟩)] w fun e w'=>ru (dJ (par d fo) l i) b v l i d fo w e w':=by
 have hE:=I (Cx (d:=d) (fo:=fo) hi)
 have h0:=h.alloc (TK.aq {})
 have HM:Hid (Mv b w (w.alloc (TK.aq {}))):=(Mv.refl b w).alloc _
 have HN:=I (eE h0)
 rw[show decide (l.length<=i)=true by simpa using hi]at HN
 have HG:=I (fun q=>aO 1 (i:Int) ((w.alloc (TK.aq {})).drewN q))
 obtain⟨c0,c1,c2,c3,f1⟩:=h0.cells
 simp only[TK.aq]at HM HN HG c0 c1 c2 c3 f1
 simp only[aw]at HG
 clear h h0 hi
 go_enter func220,ntmps220
 go_wp2_with fail
 refine HN.o.mono ?_
 rintro e w1 ⟨rfl,q,rfl⟩
 go_wp2_with fail
 refine(HG.o q).mono ?_
 rintro e w2 ⟨rfl,rfl⟩
 go_wp2
 exact⟨rfl,.inr ⟨1,hE.o,rfl,HM.o.drewN q⟩⟩
variable {w w' : World} {b : Nat} {v : Value} {l : List Int} {i : Nat} {d : Int} {fo : Bool}
theorem FG(h:BB w b v l i d fo)(hi:i<l.length)(hd:(d==1)=false):Calls prog 220 #[.pointer (some ⟨b,0,none⟩)] w fun e w'=>ru (dJ (par d fo) l i) b v l i d fo w e w':=by
 have hE:=I (Af (d:=d) (fo:=fo) hi (by rw[hd];rfl))
 have h0:=h.alloc (TK.aq {})
 have HN:=I (eE h0)
 rw[show decide (l.length<=i)=false by simpa using hi]at HN
 have HB:=I h0
 have hbs:=h.lt
 have HBS:=I hbs
 have hsm:=h.small
 have hpm:=I (h.dL l[i] (List.getElem_mem _))
 have hN0:=I (TK.aj w (TK.aq {}))
 have HXL:=I h.GS
 have HZ:=I (fun q=>dx (h0.drewN q) hd)
 have HM0:Hid (Mv b w (w.alloc (TK.aq {}))):=(Mv.refl b w).alloc _
 have HF:Hid (∀q W,W=(w.alloc (TK.aq {})).drewN q->BB W b v l i d fo/\Mv b w W/\W.heap[w.heap.size]? =some (TK.aq {})):=by
  intro q W hW
  rw[hW]
  exact⟨h0.drewN q,HM0.o.drewN q,hN0.o⟩
 simp only[TK.aq]at HN HZ HF
 clear h h0 hN0 HM0 HB hd
 go_enter func220,ntmps220
 go_wp2_with fail
 refine HN.o.mono ?_
 rintro e w1 ⟨rfl,q,rfl⟩
 go_wp2_with fail
 refine(HZ.o q).mono ?_
 rintro e w1 ⟨rfl,rfl⟩
 go_upto_region 4 with fail
 obtain⟨W,hW⟩:∃W,W=(w.alloc (.cells #[.int .i64 0,.int .i64 0,.string ⟨#[]⟩,.bool false,.int .i64 0,.int .i64 0,.int .i64 0,.int .i64 0] 70)).drewN q:=⟨_,rfl⟩
 obtain⟨hr,hm,hN⟩:=HF.o q W hW
 rw[<- hW]
 clear hW HF HZ HN
 have HR:=I hr
 have HM:=I hm
 have HN:=I hN
 obtain⟨c0,c1,c2,c3,f1⟩:=hr.cells
 obtain⟨x,c,hvx,hcap,hpat⟩:=hr.pat.some (by omega)
 have hp:=hpat i hi
 obtain⟨m0,m1,m2,m3,m4,m5,m6,m7⟩:=TK.ai (t:={}) hN
 have fr0:=TK.au (t:={}) hN
 rw[hvx]at c0
 obtain⟨p,hpp⟩:∃p,p=l[i]:=⟨_,rfl⟩
 rw[<- hpp]at hp hE hpm
 obtain⟨n,hn⟩:∃n,n=l.length:=⟨_,rfl⟩
 rw[<- hn]at c0 hi hcap hsm
 have HI1:Hid (i+1<=l.length):=by show _<=_;omega
 have t3:(i:Int)<(n:Int):=by omega
 have t4:(0:Int)<=(i:Int):=by omega
 have hNb:¬w.heap.size=b:=by omega
 have hbN:¬b=w.heap.size:=by omega
 obtain⟨N,hNN⟩:∃N,N=w.heap.size:=⟨_,rfl⟩
 have HNN:=I hNN
 rw[<- hNN]at HN m0 m1 m2 m3 m4 m5 m6 m7 fr0 hNb hbN |-
 clear hr hm hN hpat hvx hpp hn hNN hbs
 go_wp2
 go_quiet (fail)
 go_wp21
 refine TK.aK (t:=TK.aM p) (N:=N) results220 rfl (TK.aI (t0:={}) (by rw[Below.heap_setCell _ _ _ _ hNb];exact HN.o) (TK.aM p)) ?_
 have k1:=((HM.o.drewN nq).setCell 1 (.int .i64 ((i+1:Nat):Int)))
 have k2:=((HR.o.drewN nq).go (i+1) HI1.o)
 refine .inl ⟨.pt p,i+1,TK.aM p,hE.o,rfl,⟨rfl,rfl⟩,fun _=>hpm.o,?_,by omega,?_⟩
 ·refine BB.kq (B:=w.heap.size) k2 (TK.dh (J _ _) (by have:=HNN.o;omega) _ _ _ _ _ _ _ _) HBS.o HXL.o
 ·exact TK.Mv.tok k1 (by have:=HNN.o;omega) _ _ _ _ _ _ _ _
variable {w w' : World} {b : Nat} {v : Value} {l : List Int} {i : Nat} {d : Int} {fo : Bool}
theorem FW(h:BB w b v l i d fo)(hi:i<l.length)(hd:(d==1)=true)(h92:aX l i [92]=false):Calls prog 220 #[.pointer (some ⟨b,0,none⟩)] w fun e w'=>ru (dJ (par d fo) l i) b v l i d fo w e w':=by
 have hE:=I (Af (d:=d) (fo:=fo) hi (by rw[hd,h92];rfl))
 have h0:=h.alloc (TK.aq {})
 have HN:Hid (Calls prog 104 #[.pointer (some ⟨b,0,none⟩)] (w.alloc (TK.aq {})) fun e w'=>e=.returned (.bool false)/\BB w' b v l i d fo/\Mv b w w'/\w'.heap[w.heap.size]? =some (TK.aq {})):=by
  have:=eE h0
  rw[show decide (l.length<=i)=false by simpa using hi]at this
  exact this.mono fun e w' ⟨h1,q,h2⟩=>⟨h1,by rw[h2];exact h0.drewN q,by rw[h2];exact((Mv.refl b w).alloc _).drewN q,by rw[h2];exact TK.aj _ _⟩
 have hbs:=h.lt
 have HBS:=I hbs
 have hsm:=h.small
 have hpm:=I (h.dL l[i] (List.getElem_mem _))
 have HXL:=I h.GS
 have HD0:=I hd
 have HI:Hid (∀w1,BB w1 b v l i d fo->Calls prog 124 #[.pointer (some ⟨b,0,none⟩),.slice (some ⟨w1.heap.size,0,none⟩) 1 1] (w1.alloc (.cells #[.int .i64 92] 3)) fun e w'=>e=.returned (.bool false)/\Below w1.heap.size w1 w'):=fun w1 h1=>by
  have:=Hu h1 92
  rw[h92]at this
  exact this
 simp only[TK.aq]at HN
 clear h h0 h92 hd
 go_enter func220,ntmps220
 go_wp2_with fail
 refine HN.o.mono ?_
 rintro e w1 ⟨rfl,hr1,hm1,hN1⟩
 have HR1:=I hr1
 have HM1:=I hm1
 have HN1:=I hN1
 clear hr1 hm1 hN1 HN
 go_wp2_with fail
 refine(dx HR1.o HD0.o).mono ?_
 rintro e w1' ⟨rfl,rfl⟩
 go_wp2_with fail
 refine(HI.o w1 HR1.o).mono ?_
 rintro e W ⟨rfl,hbW⟩
 go_upto_region 4 with fail
 have hr:=HR1.o.ar hbW
 have hm:=HM1.o.trans (Mv.ae hbW)
 have hN:W.heap[w.heap.size]? =some (TK.aq {}):=by rw[hbW.block _ (lt_of_block HN1.o)];exact HN1.o
 clear hbW HI HR1 HM1 HN1 HD0
 have HR:=I hr
 have HM:=I hm
 have HN:=I hN
 obtain⟨c0,c1,c2,c3,f1⟩:=hr.cells
 obtain⟨x,c,hvx,hcap,hpat⟩:=hr.pat.some (by omega)
 have hp:=hpat i hi
 obtain⟨m0,m1,m2,m3,m4,m5,m6,m7⟩:=TK.ai (t:={}) hN
 have fr0:=TK.au (t:={}) hN
 rw[hvx]at c0
 obtain⟨p,hpp⟩:∃p,p=l[i]:=⟨_,rfl⟩
 rw[<- hpp]at hp hE hpm
 obtain⟨n,hn⟩:∃n,n=l.length:=⟨_,rfl⟩
 rw[<- hn]at c0 hi hcap hsm
 have HI1:Hid (i+1<=l.length):=by show _<=_;omega
 have t3:(i:Int)<(n:Int):=by omega
 have t4:(0:Int)<=(i:Int):=by omega
 have hNb:¬w.heap.size=b:=by omega
 have hbN:¬b=w.heap.size:=by omega
 obtain⟨N,hNN⟩:∃N,N=w.heap.size:=⟨_,rfl⟩
 have HNN:=I hNN
 rw[<- hNN]at HN m0 m1 m2 m3 m4 m5 m6 m7 fr0 hNb hbN |-
 clear hr hm hN hpat hvx hpp hn hNN hbs
 go_wp2
 go_quiet (fail)
 go_wp21
 refine TK.aK (t:=TK.aM p) (N:=N) results220 rfl (TK.aI (t0:={}) (by rw[Below.heap_setCell _ _ _ _ hNb];exact HN.o) (TK.aM p)) ?_
 have k1:=((HM.o.drewN nq).setCell 1 (.int .i64 ((i+1:Nat):Int)))
 have k2:=((HR.o.drewN nq).go (i+1) HI1.o)
 refine .inl ⟨.pt p,i+1,TK.aM p,hE.o,rfl,⟨rfl,rfl⟩,fun _=>hpm.o,?_,by omega,?_⟩
 ·refine BB.kq (B:=w.heap.size) k2 (TK.dh (J _ _) (by have:=HNN.o;omega) _ _ _ _ _ _ _ _) HBS.o HXL.o
 ·exact TK.Mv.tok k1 (by have:=HNN.o;omega) _ _ _ _ _ _ _ _
end Go.Proofs.YtklbbbldalmnbaaGreatDoor.Br
