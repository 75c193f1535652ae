import Derived.Test.YtklbbbldalmnbaaGreatDoorKQ
import Derived.Test.YtklbbbldalmnbaaGreatDoorKS
set_option maxHeartbeats 2000000
set_option linter.unusedVariables false
set_option maxRecDepth 100000
open Go.Proofs.Tryz
namespace Go.Proofs.YtklbbbldalmnbaaGreatDoor
open Go.RowKit Go.Shelf
theorem pq(w:World)(va:Value)(o:Obj):((w.alloc (.cells #[va] 22)).alloc o).cell? ⟨w.heap.size,0,none⟩=some va:=cell_alloc_sl _ (eJ _ _)
theorem wL(w:World)(o o' o2:Obj):Below w.heap.size w (((w.alloc o).alloc o').alloc o2):=(iq w o o').alloc (by simp;omega) o2
theorem JG(w:World)(va vb:Value)(o:Obj):(((w.alloc (.cells #[va] 22)).alloc (.cells #[vb] 22)).alloc o).cell? ⟨w.heap.size,0,none⟩=some va:=cell_alloc_sl _ (pq _ _ _)
theorem JP(w:World)(va vb:Value)(o:Obj):(((w.alloc (.cells #[va] 22)).alloc (.cells #[vb] 22)).alloc o).cell? ⟨w.heap.size+1,0,none⟩=some vb:=by
 have:=pq (w.alloc (.cells #[va] 22)) vb o
 simpa using this
theorem zN(w:World)(va vb:Value)(t:Nat)(j:Nat)(v:Value)(h:#[va,vb][j]? =some v):(((w.alloc (.cells #[va] 22)).alloc (.cells #[vb] 22)).alloc (.cells #[va,vb] t)).cell? ⟨w.heap.size+2,j,none⟩=some v:=by
 rw[World.cell?_alloc_at _ _ _ _ (by simp)]
 exact h
theorem kD(va:Value)(A:RL):cG [(va,A)]=bj A:=by
 unfold cG cG
 split
 ·rename_i h;exact h.symm
 ·rfl
def uX(A B:RL):Int:=if bj A=0 then bj B else bj A
theorem wM(va vb:Value)(A B:RL):cG [(va,A),(vb,B)]=uX A B:=by
 unfold uX
 rw[cG,kD]
theorem Gg{A B:RL}(h:uX A B=0):bj A=0/\bj B=0:=by
 unfold uX at h
 split at h
 ·exact⟨by assumption,h⟩
 ·exact absurd h (by assumption)
theorem F5:GC 156 (fun a b=>!a):=by
 intro a b w
 cases a<;>cases b
 all_goals
  go_enter func156,ntmps156
  go_wp2
  go_ret
  exact⟨rfl,rfl⟩
theorem wc(args:Array Value)(w:World):(callFunc 156 args).run prog w=.ok (.enter 156 args) w:=enters_of func156 (by kernel_rfl) rfl args w
theorem yz(args:Array Value)(w:World):(callFunc 154 args).run prog w=.ok (.enter 154 args) w:=enters_of func154 (by kernel_rfl) rfl args w
theorem EF(bx:Addr)(va:Value)(A:RL)(w:World)(hbx:w.cell? bx=some va)(hA:Reads w va A)(cA:Canon A)(lA:A.length<=2000):pT 154 #[.pointer (some bx)] (fun q=>!ins A q) w:=by
 have HK:=I (qG 156 _ F5 wc va (.slice none 0 0) A [] w hA (sP w) cA lj lA (by decide))
 clear hA cA lA
 unfold pT
 go_enter func154,ntmps154
 go_wp2_with fail
 refine HK.o.mono ?_
 rintro e w1 ⟨v,O,rfl,ho,hs,hb⟩
 obtain⟨ao,c,rfl⟩:=ax ho
 go_wp2
 go_ret
 exact⟨_,_,_,rfl,ho,hs,hb⟩
theorem pc(va:Value)(A:RL)(w:World)(hA:Reads w va A):Calls prog 141 #[va] w fun e w'=>JT (fun q=>!ins A q) (bj A) w e w':=by
 obtain⟨ao,ca,hva⟩:=hA.shape
 have hb2:=iq w (.cells #[va] 22) (.cells #[va] 22)
 have HM:=I (pX 154 #[.pointer (some ⟨w.heap.size,0,none⟩)] (fun q=>!ins A q) (w.heap.size+1) [(va,A)] ((w.alloc (.cells #[va] 22)).alloc (.cells #[va] 22)) yz (by simp)
  (fun j hj=>by
   obtain rfl:j=0:=by simpa using hj
   exact⟨by have:=eJ (w:=w.alloc (.cells #[va] 22)) va 22;simp,hA.below hb2⟩)
  (fun h0 w' hb'=>by
   rw[kD]at h0
   obtain⟨l,c⟩:=fR.1 h0
   exact EF _ va A w' (aE hb' (by simp;omega) (pq w va _)) ((hA.below hb2).below hb') c (by omega)))
 rw[kD]at HM
 have HB2:=I hb2
 clear hA hb2
 rw[hva]at HM HB2 |-
 clear hva
 go_enter func141,ntmps141
 go_wp2_with fail
 refine HM.o.mono ?_
 rintro e w1 ⟨v,err,O,rfl,hr,hm,hb⟩
 go_wp2
 go_ret2
 exact⟨_,_,O,rfl,eU hr HB2.o.size,hm,HB2.o.trans (hb.mono HB2.o.size)⟩
theorem Et:GC 205 (fun a b=>a&&b):=by
 intro a b w
 cases a<;>cases b
 all_goals
  go_enter func205,ntmps205
  go_wp2
  go_ret
  exact⟨rfl,rfl⟩
theorem tM(args:Array Value)(w:World):(callFunc 205 args).run prog w=.ok (.enter 205 args) w:=enters_of func205 (by kernel_rfl) rfl args w
theorem u0(args:Array Value)(w:World):(callFunc 204 args).run prog w=.ok (.enter 204 args) w:=enters_of func204 (by kernel_rfl) rfl args w
theorem BL(bx by':Addr)(va vb:Value)(A B:RL)(w:World)(hbx:w.cell? bx=some va)(hby:w.cell? by'=some vb)(hA:Reads w va A)(hB:Reads w vb B)(cA:Canon A)(lA:A.length<=2000)(cB:Canon B)(lB:B.length<=2000):pT 204 #[.pointer (some bx),.pointer (some by')] (fun q=>ins A q&&ins B q) w:=by
 have HK:=I (qG 205 _ Et tM va vb A B w hA hB cA cB lA lB)
 clear hA cA lA hB cB lB
 unfold pT
 go_enter func204,ntmps204
 go_wp2_with fail
 refine HK.o.mono ?_
 rintro e w1 ⟨v,O,rfl,ho,hs,hb⟩
 obtain⟨ao,c,rfl⟩:=ax ho
 go_wp2
 go_ret
 exact⟨_,_,_,rfl,ho,hs,hb⟩
theorem CW(va vb:Value)(A B:RL)(w:World)(hA:Reads w va A)(hB:Reads w vb B):Calls prog 180 #[va,vb] w fun e w'=>JT (fun q=>ins A q&&ins B q) (uX A B) w e w':=by
 obtain⟨ao,ca,hva⟩:=hA.shape
 obtain⟨bo,cb,hvb⟩:=hB.shape
 have hb2:=wL w (.cells #[va] 22) (.cells #[vb] 22) (.cells #[va,vb] 22)
 have HM:=I (pX 204 #[.pointer (some ⟨w.heap.size,0,none⟩),.pointer (some ⟨w.heap.size+1,0,none⟩)] (fun q=>ins A q&&ins B q) (w.heap.size+2) [(va,A),(vb,B)] (((w.alloc (.cells #[va] 22)).alloc (.cells #[vb] 22)).alloc (.cells #[va,vb] 22)) u0 (by simp)
  (fun j hj=>by
   match j,hj with
   |0,_=>exact⟨zN w va vb _ 0 va rfl,hA.below hb2⟩
   |1,_=>exact⟨zN w va vb _ 1 vb rfl,hB.below hb2⟩)
  (fun h0 w' hb'=>by
   rw[wM]at h0
   obtain⟨h1,h2⟩:=Gg h0
   obtain⟨l,c⟩:=fR.1 h1
   obtain⟨l',c'⟩:=fR.1 h2
   exact BL _ _ va vb A B w' (aE hb' (by simp;omega) (JG w va vb _)) (aE hb' (by simp) (JP w va vb _)) ((hA.below hb2).below hb') ((hB.below hb2).below hb') c (by omega) c' (by omega)))
 rw[wM]at HM
 have HB2:=I hb2
 clear hA hB hb2
 rw[hva,hvb]at HM HB2 |-
 clear hva hvb
 go_enter func180,ntmps180
 go_wp2_with fail
 refine HM.o.mono ?_
 rintro e w1 ⟨v,err,O,rfl,hr,hm,hb⟩
 go_wp2
 go_ret2
 exact⟨_,_,O,rfl,eU hr HB2.o.size,hm,HB2.o.trans (hb.mono HB2.o.size)⟩
end Go.Proofs.YtklbbbldalmnbaaGreatDoor
namespace Go.Proofs.YtklbbbldalmnbaaGreatDoor
open Go.RowKit
def lL(A:RL)(q:Int):Bool:=ins A q||(dL A).any fun p=>ins Fo.da p&&decide (q∈Fo.ja p)
theorem Fq(l:List Int)(q:Int):ins (kL l) q=decide (q∈l):=by
 rw[Bool.eq_iff_iff,decide_eq_true_iff]
 simp only[ins,kL,List.any_map,List.any_eq_true,Function.comp,Bool.and_eq_true,decide_eq_true_eq]
 constructor
 ·rintro⟨x,hx,h1,h2⟩;rw[show q=x from by omega];exact hx
 ·intro h;exact⟨q,h,Int.le_refl _,Int.le_refl _⟩
theorem DP(P:List Int)(q:Int):ins (gQ P) q=P.any fun p=>decide (q∈Fo.ja p):=by
 induction P with
 |nil=>rfl
 |cons p P ih=>rw[show p::P=[p]++P from rfl,kI,qR,fQ,Fq,ih,List.any_append];simp
theorem GD{A O:RL}(hA:Canon A)(h:bg (fun q=>ins A q&&ins Fo.da q) O)(q:Int):ins (A++gQ (dL O)) q=lL A q:=by
 rw[fQ,DP]
 unfold lL
 congr 1
 rw[Bool.eq_iff_iff]
 simp only[List.any_eq_true,Bool.and_eq_true,decide_eq_true_eq]
 constructor
 ·rintro ⟨p,hp,hq⟩
  rw[gO,h.2 p]at hp
  simp only[Bool.and_eq_true]at hp
  exact⟨p,gO.2 hp.2.1,hp.2.2,hq⟩
 ·rintro ⟨p,hp,ha,hq⟩
  obtain⟨p0,p1⟩:=qq hA p hp
  refine⟨p,?_,hq⟩
  rw[gO,h.2 p]
  simp only[Bool.and_eq_true,decide_eq_true_eq]
  exact⟨⟨p0,p1⟩,gO.1 hp,ha⟩
theorem IH{p q:Int}(h0:0<=p)(h1:p<=1114111)(h:q∈Fo.ja p):0<=q/\q<=1114111:=by
 refine(Fo.tI p h0 h1 3 (by omega)).2.2 q ?_
 have:=(Fo.vQ (Fo.fc p 3) [] List.Pairwise.nil).2
 rw[List.append_nil]at this
 exact this.mem_iff.1 h
theorem IQ{A O:RL}(hA:Canon A)(hO:Canon O):∀r∈A++gQ (dL O),er r:=by
 intro r hr
 rcases List.mem_append.1 hr with hr|hr
 ·exact hA.1 r hr
 ·simp only[gQ,List.mem_flatMap,kL,List.mem_map]at hr
  obtain⟨p,hp,q,hq,rfl⟩:=hr
  obtain⟨p0,p1⟩:=qq hO p hp
  have:=IH p0 p1 hq
  unfold er
  simp only
  omega
theorem F1{A O:RL}(lA:A.length<=400)(h:bg (fun q=>ins A q&&ins Fo.da q) O):(A++gQ (dL O)).length<=3000:=by
 have h1:=tO O h.1 (ub h)
 have h2:=pz (dL O) (qq h.1)
 rw[List.length_append]
 omega
theorem BG{f g:Int->Bool}{O:RL}(h:bg f O)(e:∀q,f q=g q):bg g O:=⟨h.1,fun q=>by rw[h.2 q,e q]⟩
theorem wC(args:Array Value)(w:World):(callFunc 145 args).run prog w=.ok (.enter 145 args) w:=enters_of func145 (by kernel_rfl) rfl args w
theorem BV(bx:Addr)(va:Value)(A:RL)(w:World)(hT:Fo.iP w)(hpos:3<w.heap.size)(hbx:w.cell? bx=some va)(hA:Reads w va A)(cA:Canon A)(lA:A.length<=400):pT 145 #[.pointer (some bx)] (lL A) w:=by
 have HC:=I (Cp va A w hA (by omega))
 obtain⟨aa,ca,hva⟩:=hA.shape
 have hlb:=bb hbx
 have hmf:∀(fn:Fn) (first cap:Array Value) (w:World),(Instr.makeFunc fn first cap).run prog w=.ok (.func fn first cap) w:=fun _ _ _ _=>rfl
 obtain⟨na,hna⟩:∃na,na=A.length:=⟨_,rfl⟩
 have HNA:=I hna
 rw[<- hna]at hva lA
 have HA:=I hA
 have CA:=I cA
 have HT:=I hT
 rw[hva]at hbx HC HA
 clear hA cA hT hna hva
 unfold pT
 go_enter func145,ntmps145
 go_wp2_with fail
 refine HC.o.mono ?_
 rintro e w1 ⟨v1,rfl,ho1,hb1⟩
 have hbx1:=aE hb1 hlb hbx
 have hsz:=hb1.size
 have hall:Below w.heap.size w1 (w1.alloc (.cells #[v1] 22)):=(J _ w1).alloc hsz _
 have hbW:=I (hb1.trans hall)
 have hbxW:=aE hbW.o hlb hbx
 have HL:=I (yg w.heap.size w1.heap.size hpos hsz _ A v1 A (w1.alloc (.cells #[v1] 22)) (HT.o.below hbW.o hpos) (HA.o.below hbW.o) CA.o (by have:=HNA.o;omega) (heap_alloc_new _ _) (ho1.alloc _) (by have:=HNA.o;omega) hbW.o.size)
 obtain⟨a1,c1,hv1⟩:=ax ho1
 rw[hv1]at HL hbxW hbW |-
 clear HC ho1 hb1 hv1 hall
 go_wp2_with fail
 refine HL.o.mono ?_
 rintro e w2 ⟨O,v2,rfl,hs,hb,ho,hbl⟩
 have hsz2:=Nat.le_trans hbW.o.size hbl.size
 have hML:=F1 (A:=A) (by have:=HNA.o;omega) hs
 have hMO:=IQ (A:=A) CA.o hs.1
 have hMI:=I (GD CA.o hs)
 obtain⟨M,hM⟩:∃M,M=A++gQ (dL O):=⟨_,rfl⟩
 rw[<- hM]at ho hML hMO hMI
 have HJ:=I (nz w.heap.size v2 M w2 (by omega) hMO ho hsz2)
 have HS:=I hs
 have HB2:=I (hbW.o.trans hbl)
 have hcb:=cell_of_one hb
 obtain⟨a2,c2,hv2⟩:=ax ho
 rw[hv2]at HJ hcb
 clear HL hs hb ho hbl hv2 hbxW hM hML hMO
 go_wp2_with fail
 refine HJ.o.mono ?_
 rintro e w3 ⟨v3,O3,rfl,ho3,hs3,hl3,hb3⟩
 have HS3:=I hs3
 have HB3:=I hb3
 have HO3:=I ho3
 obtain⟨a3,c3,hv3⟩:=ax ho3
 rw[hv3]at HO3 |-
 clear HJ hcb ho3 hs3 hl3 hb3 hv3
 go_wp2
 go_ret
 exact⟨_,_,O3,rfl,HO3.o,BG HS3.o hMI.o,HB2.o.trans HB3.o⟩
theorem xz(va:Value)(A:RL)(w:World)(hT:Fo.iP w)(hpos:3<w.heap.size)(hA:Reads w va A):Calls prog 138 #[va] w fun e w'=>JT (lL A) (bj A) w e w':=by
 obtain⟨ao,ca,hva⟩:=hA.shape
 have hb2:=iq w (.cells #[va] 22) (.cells #[va] 22)
 have HM:=I (pX 145 #[.pointer (some ⟨w.heap.size,0,none⟩)] (lL A) (w.heap.size+1) [(va,A)] ((w.alloc (.cells #[va] 22)).alloc (.cells #[va] 22)) wC (by simp)
  (fun j hj=>by
   obtain rfl:j=0:=by simpa using hj
   exact⟨by have:=eJ (w:=w.alloc (.cells #[va] 22)) va 22;simp,hA.below hb2⟩)
  (fun h0 w' hb'=>by
   rw[kD]at h0
   obtain⟨l,c⟩:=fR.1 h0
   exact BV _ va A w' ((hT.below hb2 hpos).below hb' (by simp;omega)) (by have:=hb'.size;simp at this;omega) (aE hb' (by simp;omega) (pq w va _)) ((hA.below hb2).below hb') c (by omega)))
 rw[kD]at HM
 have HB2:=I hb2
 clear hA hb2 hT
 rw[hva]at HM HB2 |-
 clear hva
 go_enter func138,ntmps138
 go_wp2_with fail
 refine HM.o.mono ?_
 rintro e w1 ⟨v,err,O,rfl,hr,hm,hb⟩
 go_wp2
 go_ret2
 exact⟨_,_,O,rfl,eU hr HB2.o.size,hm,HB2.o.trans (hb.mono HB2.o.size)⟩
end Go.Proofs.YtklbbbldalmnbaaGreatDoor
