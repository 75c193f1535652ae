import Derived.Test.YtklbbbldalmnbaaGreatDoorKQ
import Derived.Test.YtklbbbldalmnbaaGreatDoorKS
set_option maxHeartbeats 2000000
set_option linter.unusedVariables false
set_option maxRecDepth 100000
open Go.Proofs.Tryz
namespace Go.Proofs.YtklbbbldalmnbaaGreatDoor
open Go.RowKit Go.Shelf
theorem pG(w:World)(va:Value)(o:Obj):((w.alloc (.cells #[va] 22)).alloc o).cell? ⟨w.heap.size,0,none⟩=some va:=cell_alloc_sl _ (eW _ _)
theorem vI(w:World)(o o' o2:Obj):Below w.heap.size w (((w.alloc o).alloc o').alloc o2):=(iB w o o').alloc (by simp;omega) o2
theorem Kz(w:World)(va vb:Value)(o:Obj):(((w.alloc (.cells #[va] 22)).alloc (.cells #[vb] 22)).alloc o).cell? ⟨w.heap.size,0,none⟩=some va:=cell_alloc_sl _ (pG _ _ _)
theorem KA(w:World)(va vb:Value)(o:Obj):(((w.alloc (.cells #[va] 22)).alloc (.cells #[vb] 22)).alloc o).cell? ⟨w.heap.size+1,0,none⟩=some vb:=by
 have:=pG (w.alloc (.cells #[va] 22)) vb o
 simpa using this
theorem Bi(w:World)(va vb:Value)(t:Nat)(j:Nat)(v:Value)(h:#[va,vb][j]? =some v):(((w.alloc (.cells #[va] 22)).alloc (.cells #[vb] 22)).alloc (.cells #[va,vb] t)).cell? ⟨w.heap.size+2,j,none⟩=some v:=by
 rw[World.cell?_alloc_at _ _ _ _ (by simp)]
 exact h
theorem kQ(va:Value)(A:RL):cG [(va,A)]=bp A:=by
 unfold cG cG
 split
 ·rename_i h;exact h.symm
 ·rfl
def vS(A B:RL):Int:=if bp A=0 then bp B else bp A
theorem vT(va vb:Value)(A B:RL):cG [(va,A),(vb,B)]=vS A B:=by
 unfold vS
 rw[cG,kQ]
theorem GW{A B:RL}(h:vS A B=0):bp A=0/\bp B=0:=by
 unfold vS at h
 split at h
 ·exact⟨by assumption,h⟩
 ·exact absurd h (by assumption)
theorem IG:Gv 156 (fun a b=>!a):=by
 intro a b w
 cases a<;>cases b
 all_goals
  go_enter func156,ntmps156
  go_wp2
  go_ret
  exact⟨rfl,rfl⟩
theorem wx(args:Array Value)(w:World):(callFunc 156 args).run prog w=.ok (.enter 156 args) w:=enters_of func156 (by kernel_rfl) rfl args w
theorem zr(args:Array Value)(w:World):(callFunc 154 args).run prog w=.ok (.enter 154 args) w:=enters_of func154 (by kernel_rfl) rfl args w
theorem EW(bx:Addr)(va:Value)(A:RL)(w:World)(hbx:w.cell? bx=some va)(hA:Reads w va A)(cA:Canon A)(lA:A.length<=2000):pZ 154 #[.pointer (some bx)] (fun q=>!ins A q) w:=by
 have HK:=I (qP 156 _ IG wx va (.slice none 0 0) A [] w hA (Dd w) cA lJ lA (by decide))
 clear hA cA lA
 unfold pZ
 go_enter func154,ntmps154
 go_wp2_with fail
 refine HK.o.mono ?_
 rintro e w1 ⟨v,O,rfl,ho,hs,hb⟩
 obtain⟨ao,c,rfl⟩:=aG ho
 go_wp2
 go_ret
 exact⟨_,_,_,rfl,ho,hs,hb⟩
theorem pL(va:Value)(A:RL)(w:World)(hA:Reads w va A):Calls prog 141 #[va] w fun e w'=>K1 (fun q=>!ins A q) (bp A) w e w':=by
 obtain⟨ao,ca,hva⟩:=hA.shape
 have hb2:=iB w (.cells #[va] 22) (.cells #[va] 22)
 have HM:=I (qT 154 #[.pointer (some ⟨w.heap.size,0,none⟩)] (fun q=>!ins A q) (w.heap.size+1) [(va,A)] ((w.alloc (.cells #[va] 22)).alloc (.cells #[va] 22)) zr (by simp)
  (fun j hj=>by
   obtain rfl:j=0:=by simpa using hj
   exact⟨by have:=eW (w:=w.alloc (.cells #[va] 22)) va 22;simp,hA.below hb2⟩)
  (fun h0 w' hb'=>by
   rw[kQ]at h0
   obtain⟨l,c⟩:=gi.1 h0
   exact EW _ va A w' (aJ hb' (by simp;omega) (pG w va _)) ((hA.below hb2).below hb') c (by omega)))
 rw[kQ]at HM
 have HB2:=I hb2
 clear hA hb2
 rw[hva]at HM HB2 |-
 clear hva
 go_enter func141,ntmps141
 go_wp2_with fail
 refine HM.o.mono ?_
 rintro e w1 ⟨v,err,O,rfl,hr,hm,hb⟩
 go_wp2
 go_ret2
 exact⟨_,_,O,rfl,fv hr HB2.o.size,hm,HB2.o.aq hb⟩
theorem F1:Gv 205 (fun a b=>a&&b):=by
 intro a b w
 cases a<;>cases b
 all_goals
  go_enter func205,ntmps205
  go_wp2
  go_ret
  exact⟨rfl,rfl⟩
theorem ur(args:Array Value)(w:World):(callFunc 205 args).run prog w=.ok (.enter 205 args) w:=enters_of func205 (by kernel_rfl) rfl args w
theorem wv(args:Array Value)(w:World):(callFunc 204 args).run prog w=.ok (.enter 204 args) w:=enters_of func204 (by kernel_rfl) rfl args w
theorem CD(bx by':Addr)(va vb:Value)(A B:RL)(w:World)(hbx:w.cell? bx=some va)(hby:w.cell? by'=some vb)(hA:Reads w va A)(hB:Reads w vb B)(cA:Canon A)(lA:A.length<=2000)(cB:Canon B)(lB:B.length<=2000):pZ 204 #[.pointer (some bx),.pointer (some by')] (fun q=>ins A q&&ins B q) w:=by
 have HK:=I (qP 205 _ F1 ur va vb A B w hA hB cA cB lA lB)
 clear hA cA lA hB cB lB
 unfold pZ
 go_enter func204,ntmps204
 go_wp2_with fail
 refine HK.o.mono ?_
 rintro e w1 ⟨v,O,rfl,ho,hs,hb⟩
 obtain⟨ao,c,rfl⟩:=aG ho
 go_wp2
 go_ret
 exact⟨_,_,_,rfl,ho,hs,hb⟩
theorem EZ(va vb:Value)(A B:RL)(w:World)(hA:Reads w va A)(hB:Reads w vb B):Calls prog 180 #[va,vb] w fun e w'=>K1 (fun q=>ins A q&&ins B q) (vS A B) w e w':=by
 obtain⟨ao,ca,hva⟩:=hA.shape
 obtain⟨bo,cb,hvb⟩:=hB.shape
 have hb2:=vI w (.cells #[va] 22) (.cells #[vb] 22) (.cells #[va,vb] 22)
 have HM:=I (qT 204 #[.pointer (some ⟨w.heap.size,0,none⟩),.pointer (some ⟨w.heap.size+1,0,none⟩)] (fun q=>ins A q&&ins B q) (w.heap.size+2) [(va,A),(vb,B)] (((w.alloc (.cells #[va] 22)).alloc (.cells #[vb] 22)).alloc (.cells #[va,vb] 22)) wv (by simp)
  (fun j hj=>by
   match j,hj with
   |0,_=>exact⟨Bi w va vb _ 0 va rfl,hA.below hb2⟩
   |1,_=>exact⟨Bi w va vb _ 1 vb rfl,hB.below hb2⟩)
  (fun h0 w' hb'=>by
   rw[vT]at h0
   obtain⟨h1,h2⟩:=GW h0
   obtain⟨l,c⟩:=gi.1 h1
   obtain⟨l',c'⟩:=gi.1 h2
   exact CD _ _ va vb A B w' (aJ hb' (by simp;omega) (Kz w va vb _)) (aJ hb' (by simp) (KA w va vb _)) ((hA.below hb2).below hb') ((hB.below hb2).below hb') c (by omega) c' (by omega)))
 rw[vT]at HM
 have HB2:=I hb2
 clear hA hB hb2
 rw[hva,hvb]at HM HB2 |-
 clear hva hvb
 go_enter func180,ntmps180
 go_wp2_with fail
 refine HM.o.mono ?_
 rintro e w1 ⟨v,err,O,rfl,hr,hm,hb⟩
 go_wp2
 go_ret2
 exact⟨_,_,O,rfl,fv hr HB2.o.size,hm,HB2.o.aq hb⟩
end Go.Proofs.YtklbbbldalmnbaaGreatDoor
namespace Go.Proofs.YtklbbbldalmnbaaGreatDoor
open Go.RowKit
def mj(A:RL)(q:Int):Bool:=ins A q||(ec A).any fun p=>ins Fo.dq p&&decide (q∈Fo.js p)
theorem EI(l:List Int)(q:Int):ins (lC l) q=decide (q∈l):=by
 rw[Bool.eq_iff_iff,decide_eq_true_iff]
 simp only[ins,lC,List.any_map,List.any_eq_true,Function.comp,Bool.and_eq_true,decide_eq_true_eq]
 constructor
 ·rintro⟨x,hx,h1,h2⟩;rw[show q=x from by omega];exact hx
 ·intro h;exact⟨q,h,Int.le_refl _,Int.le_refl _⟩
theorem EH(P:List Int)(q:Int):ins (ic P) q=P.any fun p=>decide (q∈Fo.js p):=by
 induction P with
 |nil=>rfl
 |cons p P ih=>rw[show p::P=[p]++P from rfl,kK,qh,gu,EI,ih,List.any_append];simp
theorem He{A O:RL}(hA:Canon A)(h:bq (fun q=>ins A q&&ins Fo.dq q) O)(q:Int):ins (A++ic (ec O)) q=mj A q:=by
 rw[gu,EH]
 unfold mj
 congr 1
 rw[Bool.eq_iff_iff]
 simp only[List.any_eq_true,Bool.and_eq_true,decide_eq_true_eq]
 constructor
 ·rintro ⟨p,hp,hq⟩
  rw[ir,h.2 p]at hp
  simp only[Bool.and_eq_true]at hp
  exact⟨p,ir.2 hp.2.1,hp.2.2,hq⟩
 ·rintro ⟨p,hp,ha,hq⟩
  obtain⟨p0,p1⟩:=rC hA p hp
  refine⟨p,?_,hq⟩
  rw[ir,h.2 p]
  simp only[Bool.and_eq_true,decide_eq_true_eq]
  exact⟨⟨p0,p1⟩,ir.1 hp,ha⟩
theorem JX{p q:Int}(h0:0<=p)(h1:p<=1114111)(h:q∈Fo.js p):0<=q/\q<=1114111:=by
 refine(Fo.uS p h0 h1 3 (by omega)).2.2 q ?_
 have:=(Fo.yh (Fo.fy p 3) [] List.Pairwise.nil).2
 rw[List.append_nil]at this
 exact this.mem_iff.1 h
theorem Jq{A O:RL}(hA:Canon A)(hO:Canon O):∀r∈A++ic (ec O),eH r:=by
 intro r hr
 rcases List.mem_append.1 hr with hr|hr
 ·exact hA.1 r hr
 ·simp only[ic,List.mem_flatMap,lC,List.mem_map]at hr
  obtain⟨p,hp,q,hq,rfl⟩:=hr
  obtain⟨p0,p1⟩:=rC hO p hp
  have:=JX p0 p1 hq
  unfold eH
  simp only
  omega
theorem GF{A O:RL}(lA:A.length<=400)(h:bq (fun q=>ins A q&&ins Fo.dq q) O):(A++ic (ec O)).length<=3000:=by
 have h1:=uW O h.1 (u0 h)
 have h2:=qf (ec O) (rC h.1)
 rw[List.length_append]
 omega
theorem Dk{f g:Int->Bool}{O:RL}(h:bq f O)(e:∀q,f q=g q):bq g O:=⟨h.1,fun q=>by rw[h.2 q,e q]⟩
theorem wu(args:Array Value)(w:World):(callFunc 145 args).run prog w=.ok (.enter 145 args) w:=enters_of func145 (by kernel_rfl) rfl args w
theorem CC(bx:Addr)(va:Value)(A:RL)(w:World)(hT:Fo.ja w)(hpos:3<w.heap.size)(hbx:w.cell? bx=some va)(hA:Reads w va A)(cA:Canon A)(lA:A.length<=400):pZ 145 #[.pointer (some bx)] (mj A) w:=by
 have HC:=I (B7 va A w hA (by omega))
 obtain⟨aa,ca,hva⟩:=hA.shape
 have hlb:=bm hbx
 have hmf:∀(fn:Fn) (first cap:Array Value) (w:World),(Instr.makeFunc fn first cap).run prog w=.ok (.func fn first cap) w:=fun _ _ _ _=>rfl
 obtain⟨na,hna⟩:=J A.length
 have HNA:=I hna
 rw[<- hna]at hva lA
 have HA:=I hA
 have CA:=I cA
 have HT:=I hT
 rw[hva]at hbx HC HA
 clear hA cA hT hna hva
 unfold pZ
 go_enter func145,ntmps145
 go_wp2_with fail
 refine HC.o.mono ?_
 rintro e w1 ⟨v1,rfl,ho1,hb1⟩
 have hbx1:=aJ hb1 hlb hbx
 have hsz:=hb1.size
 have hall:Below w.heap.size w1 (w1.alloc (.cells #[v1] 22)):=(aI _ w1).alloc hsz _
 have hbW:=I (hb1.trans hall)
 have hbxW:=aJ hbW.o hlb hbx
 have HL:=I (zG w.heap.size w1.heap.size hpos hsz _ A v1 A (w1.alloc (.cells #[v1] 22)) (HT.o.below hbW.o hpos) (HA.o.below hbW.o) CA.o (by have:=HNA.o;omega) (heap_alloc_new _ _) (ho1.alloc _) (by have:=HNA.o;omega) hbW.o.size)
 obtain⟨a1,c1,hv1⟩:=aG ho1
 rw[hv1]at HL hbxW hbW |-
 clear HC ho1 hb1 hv1 hall
 go_wp2_with fail
 refine HL.o.mono ?_
 rintro e w2 ⟨O,v2,rfl,hs,hb,ho,hbl⟩
 have hsz2:=Nat.le_trans hbW.o.size hbl.size
 have hML:=GF (A:=A) (by have:=HNA.o;omega) hs
 have hMO:=Jq (A:=A) CA.o hs.1
 have hMI:=I (He CA.o hs)
 obtain⟨M,hM⟩:=J (A++ic (ec O))
 rw[<- hM]at ho hML hMO hMI
 have HJ:=I (nF w.heap.size v2 M w2 (by omega) hMO ho hsz2)
 have HS:=I hs
 have HB2:=I (hbW.o.trans hbl)
 have hcb:=cell_of_one hb
 obtain⟨a2,c2,hv2⟩:=aG ho
 rw[hv2]at HJ hcb
 clear HL hs hb ho hbl hv2 hbxW hM hML hMO
 go_wp2_with fail
 refine HJ.o.mono ?_
 rintro e w3 ⟨v3,O3,rfl,ho3,hs3,hl3,hb3⟩
 have HS3:=I hs3
 have HB3:=I hb3
 have HO3:=I ho3
 obtain⟨a3,c3,hv3⟩:=aG ho3
 rw[hv3]at HO3 |-
 clear HJ hcb ho3 hs3 hl3 hb3 hv3
 go_wp2
 go_ret
 exact⟨_,_,O3,rfl,HO3.o,Dk HS3.o hMI.o,HB2.o.trans HB3.o⟩
theorem wD(va:Value)(A:RL)(w:World)(hT:Fo.ja w)(hpos:3<w.heap.size)(hA:Reads w va A):Calls prog 138 #[va] w fun e w'=>K1 (mj A) (bp A) w e w':=by
 obtain⟨ao,ca,hva⟩:=hA.shape
 have hb2:=iB w (.cells #[va] 22) (.cells #[va] 22)
 have HM:=I (qT 145 #[.pointer (some ⟨w.heap.size,0,none⟩)] (mj A) (w.heap.size+1) [(va,A)] ((w.alloc (.cells #[va] 22)).alloc (.cells #[va] 22)) wu (by simp)
  (fun j hj=>by
   obtain rfl:j=0:=by simpa using hj
   exact⟨by have:=eW (w:=w.alloc (.cells #[va] 22)) va 22;simp,hA.below hb2⟩)
  (fun h0 w' hb'=>by
   rw[kQ]at h0
   obtain⟨l,c⟩:=gi.1 h0
   exact CC _ va A w' ((hT.below hb2 hpos).below hb' (by simp;omega)) (by have:=hb'.size;simp at this;omega) (aJ hb' (by simp;omega) (pG w va _)) ((hA.below hb2).below hb') c (by omega)))
 rw[kQ]at HM
 have HB2:=I hb2
 clear hA hb2 hT
 rw[hva]at HM HB2 |-
 clear hva
 go_enter func138,ntmps138
 go_wp2_with fail
 refine HM.o.mono ?_
 rintro e w1 ⟨v,err,O,rfl,hr,hm,hb⟩
 go_wp2
 go_ret2
 exact⟨_,_,O,rfl,fv hr HB2.o.size,hm,HB2.o.aq hb⟩
end Go.Proofs.YtklbbbldalmnbaaGreatDoor
