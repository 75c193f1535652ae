import Derived.Test.YtklbbbldalmnbaaGreatDoorKM
import Derived.Test.YtklbbbldalmnbaaGreatDoorKQ
set_option maxHeartbeats 4000000
set_option linter.unusedVariables false
set_option maxRecDepth 100000
open Go.Proofs.Tryz
namespace Go.Proofs.YtklbbbldalmnbaaGreatDoor.Br
open Go.RowKit
open TK (Mv bJ bU)
variable {w w' : World} {b : Nat} {v : Value} {l : List Int} {i : Nat} {d : Int} {fo : Bool}
theorem Hu(h:BB w b v l i d fo)(p:Int):
  Calls prog 124 #[.pointer (some ⟨b,0,none⟩),.slice (some ⟨w.heap.size,0,none⟩) 1 1] (w.alloc (.cells #[.int .i64 p] 3)) fun e w'=>e=.returned (.bool (aX l i [p]))/\Below w.heap.size w w':=
 (tL _ 1 [p] (h.alloc (.cells #[.int .i64 p] 3)) (TK.eZ w p 3) (by simp) (by simp)).mono fun e w' ⟨h1,q,h2⟩=>⟨h1,by rw[h2];exact below_drewN ((J _ w).alloc (U _) _) q⟩
theorem Ku(h:BB w b v l i d fo)(p q:Int):
  Calls prog 124 #[.pointer (some ⟨b,0,none⟩),.slice (some ⟨w.heap.size,0,none⟩) 2 2] (w.alloc (.cells #[.int .i64 p,.int .i64 q] 3)) fun e w'=>e=.returned (.bool (aX l i [p,q]))/\Below w.heap.size w w':=
 (tL _ 2 [p,q] (h.alloc (.cells #[.int .i64 p,.int .i64 q] 3)) (TK.lQ w p q 3) (by simp) (by simp)).mono fun e w' ⟨h1,q,h2⟩=>⟨h1,by rw[h2];exact below_drewN ((J _ w).alloc (U _) _) q⟩
theorem lF(h:BB w b v l i d fo)(p:Int):
  Calls prog 107 #[.pointer (some ⟨b,0,none⟩),.slice (some ⟨w.heap.size,0,none⟩) 1 1] (w.alloc (.cells #[.int .i64 p] 3)) fun e w'=>e=.returned (.bool (aX l i [p]))/\BB w' b v l (if aX l i [p]then i+1 else i) d fo/\Mv b w w':=
 (rX _ 1 [p] (h.alloc (.cells #[.int .i64 p] 3)) (TK.eZ w p 3) (by simp) (by simp)).mono fun e w' ⟨h1,h2,h3⟩=>⟨h1,h2,((Mv.refl b w).alloc _).trans h3⟩
theorem sX(h:BB w b v l i d fo)(p q:Int):
  Calls prog 107 #[.pointer (some ⟨b,0,none⟩),.slice (some ⟨w.heap.size,0,none⟩) 2 2] (w.alloc (.cells #[.int .i64 p,.int .i64 q] 3)) fun e w'=>e=.returned (.bool (aX l i [p,q]))/\BB w' b v l (if aX l i [p,q]then i+2 else i) d fo/\Mv b w w':=
 (rX _ 2 [p,q] (h.alloc (.cells #[.int .i64 p,.int .i64 q] 3)) (TK.lQ w p q 3) (by simp) (by simp)).mono fun e w' ⟨h1,h2,h3⟩=>⟨h1,h2,((Mv.refl b w).alloc _).trans h3⟩
theorem jw(h:BB w b v l i d fo)(p:Int)(hs:aX l i [p]=true):
  Calls prog 107 #[.pointer (some ⟨b,0,none⟩),.slice (some ⟨w.heap.size,0,none⟩) 1 1] (w.alloc (.cells #[.int .i64 p] 3)) fun e w'=>e=.returned (.bool true)/\BB w' b v l (i+1) d fo/\Mv b w w':=by
 have:=lF h p
 rw[hs,if_pos rfl]at this
 exact this
theorem qD(h:BB w b v l i d fo)(p:Int)(hs:aX l i [p]=false):
  Calls prog 107 #[.pointer (some ⟨b,0,none⟩),.slice (some ⟨w.heap.size,0,none⟩) 1 1] (w.alloc (.cells #[.int .i64 p] 3)) fun e w'=>e=.returned (.bool false)/\BB w' b v l i d fo/\Mv b w w':=by
 have:=lF h p
 rw[hs,if_neg (by simp)]at this
 exact this
theorem dt(h:BB w b v l i d fo)(p q:Int)(hs:aX l i [p,q]=true):
  Calls prog 107 #[.pointer (some ⟨b,0,none⟩),.slice (some ⟨w.heap.size,0,none⟩) 2 2] (w.alloc (.cells #[.int .i64 p,.int .i64 q] 3)) fun e w'=>e=.returned (.bool true)/\BB w' b v l (i+2) d fo/\Mv b w w':=by
 have:=sX h p q
 rw[hs,if_pos rfl]at this
 exact this
theorem mE(h:BB w b v l i d fo)(p q:Int)(hs:aX l i [p,q]=false):
  Calls prog 107 #[.pointer (some ⟨b,0,none⟩),.slice (some ⟨w.heap.size,0,none⟩) 2 2] (w.alloc (.cells #[.int .i64 p,.int .i64 q] 3)) fun e w'=>e=.returned (.bool false)/\BB w' b v l i d fo/\Mv b w w':=by
 have:=sX h p q
 rw[hs,if_neg (by simp)]at this
 exact this
theorem mb(h:BB w b v l i d fo):Calls prog 179 #[.pointer (some ⟨b,0,none⟩)] w fun e w'=>e=.returned (.bool (d==1))/\w=w':=by
 obtain⟨c0,c1,c2,c3,f1⟩:=h.cells
 clear h
 go_enter func179,ntmps179
 go_wp2
 go_ret
 exact⟨rfl,rfl⟩
theorem dx(h:BB w b v l i d fo){z:Bool}(hz:(d==1)=z):Calls prog 179 #[.pointer (some ⟨b,0,none⟩)] w fun e w'=>e=.returned (.bool z)/\w=w':=by
 have:=mb h
 rw[hz]at this
 exact this
theorem oI(h:BB w b v l i d fo):Calls prog 216 #[.pointer (some ⟨b,0,none⟩)] w fun e w'=>e=.returned (.bool (bZ l i))/\Below w.heap.size w w':=by
 have HI:=I (Ku h 91 58)
 obtain⟨z,hz⟩:∃z,z=bZ l i:=⟨_,rfl⟩
 rw[show aX l i [91,58]=bZ l i from rfl, <-hz]at HI
 rw[<- hz]
 clear h hz
 go_enter func216,ntmps216
 go_wp2_with fail
 refine HI.o.mono ?_
 rintro e w1 ⟨rfl,hb⟩
 go_wp2
 go_ret
 exact⟨rfl,hb⟩
theorem nS(h:BB w b v l i d fo):Calls prog 215 #[.pointer (some ⟨b,0,none⟩)] w fun e w'=>e=.returned (.bool ((d==1)&&aX l i [38,38]))/\Below w.heap.size w w':=by
 have HR:=I (mb h)
 have HI:=I (Ku h 38 38)
 obtain⟨z,hz⟩:∃z,z=aX l i [38,38]:=⟨_,rfl⟩
 rw[<- hz]at HI |-
 clear h hz
 cases hr:(d==1)with
 |true=>
  rw[hr]at HR
  clear hr
  go_enter func215,ntmps215
  go_wp2_with fail
  refine HR.o.mono ?_
  rintro e w1 ⟨rfl,rfl⟩
  go_wp2_with fail
  refine HI.o.mono ?_
  rintro e w2 ⟨rfl,hb⟩
  go_wp2
  go_ret
  exact⟨rfl,hb⟩
 |false=>
  rw[hr]at HR
  clear hr
  go_enter func215,ntmps215
  go_wp2_with fail
  refine HR.o.mono ?_
  rintro e w1 ⟨rfl,rfl⟩
  go_wp2
  go_ret
  exact⟨rfl,J _ _⟩
theorem wk(h:BB w b v l i d fo):Calls prog 222 #[.pointer (some ⟨b,0,none⟩)] w fun e w'=>e=.returned (.bool (mU l i))/\Below w.heap.size w w':=by
 have HI:=I (Hu h 45)
 have HJ:=I (fun w1 (hb:Below w.heap.size w w1)=>Ku (h.ar hb) 45 93)
 have hE:mU l i=(aX l i [45]&&!aX l i [45,93]):=rfl
 rw[hE]
 obtain⟨z,hz⟩:∃z,z=aX l i [45,93]:=⟨_,rfl⟩
 rw[<- hz]at HJ |-
 clear h hz hE
 cases hr:aX l i [45]with
 |true=>
  rw[hr]at HI
  clear hr
  go_enter func222,ntmps222
  go_wp2_with fail
  refine HI.o.mono ?_
  rintro e w1 ⟨rfl,hb1⟩
  go_wp2_with fail
  refine(HJ.o w1 hb1).mono ?_
  rintro e w2 ⟨rfl,hb⟩
  go_wp2
  go_ret
  exact⟨rfl,hb1.trans (hb.mono hb1.size)⟩
 |false=>
  rw[hr]at HI
  clear hr
  go_enter func222,ntmps222
  go_wp2_with fail
  refine HI.o.mono ?_
  rintro e w1 ⟨rfl,hb1⟩
  go_wp2
  go_ret
  exact⟨rfl,hb1⟩
theorem th(h:BB w b v l i d fo):Calls prog 218 #[.pointer (some ⟨b,0,none⟩)] w fun e w'=>e=.returned (.bool ((d==1)&&aX l i [91]&&!bZ l i))/\Below w.heap.size w w':=by
 have HR:=I (mb h)
 have HI:=I (Hu h 91)
 have HJ:=I (fun w1 (hb:Below w.heap.size w w1)=>oI (h.ar hb))
 obtain⟨z,hz⟩:∃z,z=bZ l i:=⟨_,rfl⟩
 rw[<- hz]at HJ |-
 clear h hz
 cases hr:(d==1)with
 |true=>
  rw[hr]at HR
  clear hr
  cases hs:aX l i [91]with
  |true=>
   rw[hs]at HI
   clear hs
   go_enter func218,ntmps218
   go_wp2_with fail
   refine HR.o.mono ?_
   rintro e w1 ⟨rfl,rfl⟩
   go_wp2_with fail
   refine HI.o.mono ?_
   rintro e w1 ⟨rfl,hb1⟩
   go_wp2_with fail
   refine(HJ.o w1 hb1).mono ?_
   rintro e w2 ⟨rfl,hb⟩
   go_wp2
   go_ret
   exact⟨rfl,hb1.trans (hb.mono hb1.size)⟩
  |false=>
   rw[hs]at HI
   clear hs
   go_enter func218,ntmps218
   go_wp2_with fail
   refine HR.o.mono ?_
   rintro e w1 ⟨rfl,rfl⟩
   go_wp2_with fail
   refine HI.o.mono ?_
   rintro e w1 ⟨rfl,hb1⟩
   go_wp2
   go_ret
   exact⟨rfl,hb1⟩
 |false=>
  rw[hr]at HR
  clear hr
  go_enter func218,ntmps218
  go_wp2_with fail
  refine HR.o.mono ?_
  rintro e w1 ⟨rfl,rfl⟩
  go_wp2
  go_ret
  exact⟨rfl,J _ _⟩
theorem rq(first:Nat)(h:BB w b v l i d fo):Calls prog 202 #[.pointer (some ⟨b,0,none⟩),.int .i64 first] w fun e w'=>e=.returned (.bool ((decide (i≠first)&&aX l i [93])||((d==1)&&aX l i [38,38])))/\Below w.heap.size w w':=by
 obtain⟨c0,c1,c2,c3,f1⟩:=h.cells
 have HI:=I (Hu h 93)
 have HJ:=I (fun w1 (hb:Below w.heap.size w w1)=>nS (h.ar hb))
 have HA:=I (nS h)
 obtain⟨z,hz⟩:∃z,z=((d==1)&&aX l i [38,38]):=⟨_,rfl⟩
 rw[<- hz]at HJ HA |-
 clear h hz c0 c2 c3
 by_cases hif:i=first
 ·have e0:(decide (i≠first))=false:=by simp[hif]
  rw[e0]
  have e1:((i:Int) !=(first:Int))=false:=by simp[hif]
  have e2:(i:Int)=(first:Int):=by omega
  clear e0 hif
  go_enter func202,ntmps202
  go_wp2_with fail
  refine HA.o.mono ?_
  rintro e w2 ⟨rfl,hb⟩
  go_wp2
  go_ret
  exact⟨rfl,hb⟩
 ·have e0:(decide (i≠first))=true:=by simp[hif]
  rw[e0]
  have e1:((i:Int) !=(first:Int))=true:=by simp;omega
  have e2:¬(i:Int)=(first:Int):=by omega
  clear e0 hif
  cases hs:aX l i [93]with
  |true=>
   rw[hs]at HI
   clear hs
   go_enter func202,ntmps202
   go_wp2_with fail
   refine HI.o.mono ?_
   rintro e w1 ⟨rfl,hb1⟩
   go_wp2
   go_ret
   exact⟨rfl,hb1⟩
  |false=>
   rw[hs]at HI
   clear hs
   go_enter func202,ntmps202
   go_wp2_with fail
   refine HI.o.mono ?_
   rintro e w1 ⟨rfl,hb1⟩
   go_wp2_with fail
   refine(HJ.o w1 hb1).mono ?_
   rintro e w2 ⟨rfl,hb⟩
   go_wp2
   go_ret
   exact⟨rfl,hb1.trans (hb.mono hb1.size)⟩
def aw(e a:Int):Ending:=.panicked [{ v:=.iface 38 (.agg #[.int .i64 e,.int .i64 a]),recovered:=false }]
theorem aO(e a:Int)(w:World):Calls prog 181 #[.int .i64 e,.int .i64 a] w fun r w'=>r=aw e a/\w=w':=by
 go_enter func181,ntmps181
 go_wp2
 exact⟨rfl,rfl,rfl⟩
theorem lr(ao:Option Addr)(n c:Nat)(w:World):Calls prog 172 #[.slice ao n c,.int .i64 0] w fun r w'=>r=.returned (.slice ao n c)/\w=w':=by
 go_enter func172,ntmps172
 go_wp2
 go_ret
 exact⟨rfl,rfl⟩
theorem lk(ao:Option Addr)(n c:Nat)(e:Int)(he:e≠0)(w:World):Calls prog 172 #[.slice ao n c,.int .i64 e] w fun r w'=>r=aw e 0/\w=w':=by
 have HG:=I (aO e 0 w)
 simp only[aw]at HG
 have hz:(e !=0)=true:=by simpa using he
 clear he
 go_enter func172,ntmps172
 go_wp2_with fail
 refine HG.o.mono ?_
 rintro r w1 ⟨rfl,rfl⟩
 go_wp2
 exact⟨rfl,rfl,rfl⟩
end Go.Proofs.YtklbbbldalmnbaaGreatDoor.Br
namespace Go.Proofs.YtklbbbldalmnbaaGreatDoor.Br
open Go.RowKit
open TK (Mv bJ bU aS xE bE)
variable {w w' : World} {b : Nat} {v : Value} {l : List Int} {i : Nat} {d : Int} {fo : Bool}
def l8(c:Int):Bool:=decide (97<=c)&&decide (c<=122)
structure xJ(l:List Int)(i k:Nat):Prop where
 k2:i+k<=l.length
 rest:aH l i=(l.drop i).take k++(l.drop (i+k)).takeWhile l8
theorem xW(l:List Int)(i:Nat)(h:i<=l.length):xJ l i 0:=⟨h,rfl⟩
theorem Az{l:List Int}{i k:Nat}(h:xJ l i k)(h2:i+k<l.length)(h3:l8 l[i+k]=true):xJ l i (k+1):=by
 refine⟨by omega,?_⟩
 rw[h.rest,List.drop_eq_getElem_cons h2,List.takeWhile_cons,if_pos h3,List.take_add_one]
 have:(l.drop i)[k]? =some l[i+k]:=by rw[List.getElem?_drop,List.getElem?_eq_getElem h2]
 rw[this]
 simp[Nat.add_assoc]
theorem vN{l:List Int}{i k:Nat}(h:xJ l i k)(he:¬ ∃h2:i+k<l.length,l8 l[i+k]=true):aH l i=(l.drop i).take k:=by
 rw[h.rest]
 have:(l.drop (i+k)).takeWhile l8=[]:=by
  by_cases h2:i+k<l.length
  ·rw[List.drop_eq_getElem_cons h2,List.takeWhile_cons,if_neg (fun h3=>he ⟨h2,h3⟩)]
  ·rw[List.drop_eq_nil_of_le (by omega)];rfl
 rw[this,List.append_nil]
theorem vt{l:List Int}{i k:Nat}(h:xJ l i k):((l.drop i).take k).length=k:=by
 rw[List.length_take,List.length_drop];have:=h.k2;omega
theorem BB.kq{B:Nat}(h:BB w b v l i d fo)(hb:Below B w w')(h1:b<B)(hx:∀x c,0<l.length->v=.slice (some x) l.length c->x.block<B):BB w' b v l i d fo:=by
 refine⟨by rw[hb.block b h1];exact h.box,?_,h.ne,h.small,h.at',h.dL,h.Ke,h.Bl.below hb (Nat.lt_trans h.pos h1),h.pos⟩
 rcases h.pat with⟨e1,e2⟩|⟨x,c,e1,e2,e3⟩
 ·exact .inl ⟨e1,e2⟩
 ·refine .inr ⟨x,c,e1,e2,fun j hj=>?_⟩
  rw[<- e3 j hj]
  unfold World.cell?
  rw[hb.block _ (by rw[aS];exact hx x c (by omega) e1)]
theorem BB.GS(h:BB w b v l i d fo):∀x c,0<l.length->v=.slice (some x) l.length c->x.block<w.heap.size:=by
 intro x c hl e
 obtain⟨y,c',e',_,hr⟩:=h.pat.some hl
 rw[e']at e
 cases e
 have:=World.block_lt_of_cell? _ _ (hr 0 hl)
 rw[aS]at this
 exact this
def rp(b:Nat)(v:Value)(l:List Int)(i:Nat)(d:Int)(fo:Bool)(w:World)(e:Ending)(w':World):Prop:=
 e=.returned (.string (bE (aH l i)))/\BB w' b v l (i+(aH l i).length) d fo/\Mv b w w'
theorem dC(h:BB w b v l i d fo):
  Calls prog 226 #[.pointer (some ⟨b,0,none⟩)] w fun e w'=>rp b v l i d fo w e w':=by
 obtain⟨i0,hi,hz0,hz1,hz2⟩:=TK.info_parts TK.H4
 have hat:=h.at'
 have hsm:=h.small
 have HP:=I h.dL
 have HR0:=I h
 have hbw:=h.lt
 obtain⟨vo,vc,hvs⟩:=h.pat.shape
 clear h
 go_enter func226,ntmps226
 go_wp2
 go_loopw [3] (fun u wr=>∃k:Nat,xJ l i k/\wr.ownsRow w.heap.size 5 1 u k (xE ((l.drop i).take k))/\BB wr b v l (i+k) d fo/\Mv b w wr) (fun u _=>300 - TK.FE u)
 case atStart=>exact⟨0,xW l i hat,World.ownsRow_nil _ _ _ _,HR0.o,Mv.refl b w⟩
 case round=>
  obtain⟨k,hn,ho,hr,hv⟩:=hrel
  have HN:=I hn
  have HO:=I ho
  have HV:=I hv
  have hk1:=hn.k2
  have hk3:k<=300:=by omega
  obtain⟨ao,ca,rfl⟩:=TK.ax ho
  have hob:(Value.slice ao k ca).ownBlock≠some b:=fun e=>by
   have h1:=(ho.lt _ e).1
   omega
  obtain⟨j,hj⟩:∃j,j=i+k:=⟨_,rfl⟩
  have HJ:=I hj
  rw[<- hj]at hr
  have HRr:=I hr
  obtain⟨c0,c1,c2,c3,f1⟩:=hr.cells
  have HE:=I (fun q=>eE (hr.drewN q))
  obtain⟨len,hlen⟩:∃len,len=l.length:=⟨_,rfl⟩
  have HL:=I hlen
  rw[<- hlen]at HE hsm
  have hjl:j<=len:=by rw[hlen];exact hr.at'
  have hsz:w.heap.size<=wr.heap.size:=hv.size
  by_cases h2:j<len
  ·have h2':j<l.length:=by omega
   obtain⟨x,c,hvx,hcap,hpat'⟩:=hr.pat.some (by omega)
   have hpat:=hpat' j h2'
   have hxw:Hid (x.block<w.heap.size):=HR0.o.GS x c (by omega) hvx
   have hpt:=HP.o l[j] (List.getElem_mem _)
   have e1:decide (len<=j)=false:=by simp;omega
   rw[e1]at HE
   rw[<- hlen]at hvx hcap
   by_cases h3:l8 l[j]=true
   ·have hnx:Hid (xJ l i (k+1)):=by
     subst hj
     exact Az hn h2' h3
    have hrg:97<=l[j]/\l[j]<=122:=by simpa[l8]using h3
    have htk:Hid ((l.drop i).take (k+1)=(l.drop i).take k++[l[j]]):=by
     show _=_
     rw[List.take_add_one,List.getElem?_drop]
     subst hj
     rw[List.getElem?_eq_getElem h2']
     rfl
    obtain⟨p,hp⟩:∃p,p=l[j]:=⟨_,rfl⟩
    rw[<- hp]at hpat htk hrg
    obtain⟨r0,r1⟩:=hrg
    have wp:IntKind.u8.wrap p=p:=by unfold IntKind.wrap;simp[IntKind.bits,IntKind.signed];omega
    have hne:(Value.slice ao k ca).ownBlock≠some x.block:=fun e=>by
     have h1:=(HO.o.lt _ e).1
     have h2:=hxw.o
     omega
    have hk4:k<300:=by omega
    have t1:decide (97<=p)=true:=by simpa using r0
    have t2:decide (p<=122)=true:=by simpa using r1
    have t3:(j:Int)<(len:Int):=by omega
    have t4:(0:Int)<=(j:Int):=by omega
    have HXV:=I hvx
    rw[hvx]at c0
    clear e1 hp hn hr hv hlen hpt h2' hj hat ho h3 hpat' hvs hvx
    go_wp2
    go_quiet (first|(go_at_call 104;refine Calls.quiet_of (HE.o _)))
    obtain⟨q1,rfl⟩:∃q1,q1=nq:=⟨_,rfl⟩
    go_wp2
    obtain⟨w3,hw3⟩:∃w3,w3=wr.drewN q1:=⟨_,rfl⟩
    have d0:w3.cell? ⟨b,0,none⟩=some (.slice (some x) len c):=by rw[hw3];exact c0
    have d1:w3.cell? ⟨b,1,none⟩=some (.int .i64 j):=by rw[hw3];exact c1
    have d2:w3.cell? (x.add j)=some (.int .i64 p):=by rw[hw3];exact hpat
    have HO3:Hid (w3.ownsRow w.heap.size 5 1 (.slice ao k ca) k (xE ((l.drop i).take k))):=by show World.ownsRow _ _ _ _ _ _ _;rw[hw3];exact HO.o
    have HR3:Hid (BB w3 b v l j d fo):=by show BB _ _ _ _ _ _ _;rw[hw3];exact HRr.o.drewN q1
    have HV3:Hid (Mv b w w3):=by show Mv _ _ _;rw[hw3];exact HV.o.drewN q1
    have hsz3:w.heap.size<=w3.heap.size:=HV3.o.size
    have hb3:b<w3.heap.size:=by omega
    have hx3:x.block<w3.heap.size:=Nat.lt_of_lt_of_le hxw.o hsz3
    rw[<- hw3]
    clear c0 c1 c2 c3 f1 hpat hw3 hsz
    have g1:(j:Int)<(len:Int):=by omega
    have g0:(0:Int)<=(j:Int):=by omega
    go_region_held3 (fun w'=>w'.cell? ⟨b,0,none⟩=some (.slice (some x) len c)/\w'.cell? ⟨b,1,none⟩=some (.int .i64 j)/\w'.cell? (x.add j)=some (.int .i64 p))
     (first|go_keep|(go_split_ands;refine⟨?_,?_,?_⟩<;>(rw[hgrow.cell_far _ (by simp[aS];omega) (by first|(simpa[aS]using Ne.symm hne)|(simpa using Ne.symm hob))];assumption)))
     ((refine step_append_lies _ (by rfl) _ _ _ (by rfl) w.heap.size 5 i0 _ 1 1 underlying59 hi hz0 hz1 hz2 rfl (by omega) (.slice ao k ca) k (xE ((l.drop i).take k)) (by rfl) ((HO3.o.alloc _).drew) ⟨w3.heap.size,0,none⟩ 1 1 [.int .u8 p] (by rfl) (by rfl) (World.news_of_block (cs:=#[.int .u8 p]) (t:=5) (fr:=(0,0)) (heap_alloc_new w3 _)) (by simp[Value.oneCell']) (by omega) (by unfold maxLen;omega) (by omega) (by simp;omega) (w3.heap.size+1) (by simp) ?_;intro gg cap w1 hown1 hgrow hat1 hltt))
    have hbw1:Hid (Below w.heap.size w3 w1):=((J w.heap.size w3).alloc hsz3 _).drew.grown hgrow (by show w.heap.size<=(w3.alloc _).heap.size;simp;omega) (fun k' hk=>(HO3.o.lt k' hk).1)
    have hr1:=HR3.o.kq hbw1.o hbw HR0.o.GS
    have HR1:=I hr1
    have hv1:Hid (Mv b w w1):=⟨hbw1.o.os.trans HV3.o.os,hbw1.o.tape.trans HV3.o.tape,hbw1.o.output.trans HV3.o.output,Nat.le_trans HV3.o.size hbw1.o.size,fun k' h1' h2'=>(hbw1.o.block k' h1').trans (HV3.o.block k' h1' h2')⟩
    have HO1:=I hown1
    have hob1:Hid ((Value.slice (some ⟨gg,0,none⟩) (k+1) cap).ownBlock≠some b):=fun e=>by
     have h1':=(hown1.lt _ e).1
     omega
    obtain⟨c0,c1,c2,c3,f1⟩:=hr1.cells
    rw[HXV.o]at c0
    clear hr1 hown1 hgrow hat1 hltt d0 d1 d2
    go_wp2
    go_roundw
    case rel=>exact⟨k+1,hnx.o,by rw[htk.o,TK.ql];exact ownsRow_setCell_other HO1.o hob1.o _,by
      have:=HR1.o.go (j+1) (by have:=HL.o;omega)
      have e:i+(k+1)=j+1:=by have:=HJ.o;omega
      rw[e];simpa using this,by have:=hv1.o.setCell 1 (.int .i64 ((j+1:Nat):Int));simpa using this⟩
    case measure=>simp[TK.FE];omega
   ·have hE:Hid (aH l i=(l.drop i).take k):=by
     subst hj
     exact vN hn (fun ⟨_,hh⟩=>h3 hh)
    obtain⟨p,hp⟩:∃p,p=l[j]:=⟨_,rfl⟩
    have hrg:¬97<=p\/(97<=p/\¬p<=122):=by
     have:¬(97<=p/\p<=122):=fun hh=>h3 (by rw[<- hp];simpa[l8]using hh)
     omega
    rw[<- hp]at hpat
    have hnl:Hid ((aH l i).length=k):=by show _=_;rw[hE.o];exact vt HN.o
    have hcv:∀q,(convert 59 9 (.slice ao k ca)).run prog (wr.drewN q)=.ok (.string (bE ((l.drop i).take k))) (wr.drewN q):=fun q=>TK.gD (w:=wr.drewN q) HO.o
    obtain⟨S,hS⟩:∃S,S=bE ((l.drop i).take k):=⟨_,rfl⟩
    rw[<- hS]at hcv
    have HSS:=I hS
    have t3:(j:Int)<(len:Int):=by omega
    have t4:(0:Int)<=(j:Int):=by omega
    rw[hvx]at c0
    clear hS e1 hp hn hr hv hlen hpt h2' hj hat ho h3 hpat' hvs hvx
    rcases hrg with r0|⟨r0,r1⟩
    ·have t1:decide (97<=p)=false:=by simpa using r0
     go_wp2
     go_quiet (first|(go_at_call 104;refine Calls.quiet_of (HE.o _)))
     go_wp2
     go_ret
     exact⟨(by rw[HSS.o,hE.o];first|rfl|skip),by
      have:=HRr.o.drewN nq
      rw[HJ.o]at this
      rw[hnl.o];exact this,HV.o.drewN nq⟩
    ·have t1:decide (97<=p)=true:=by simpa using r0
     have t2:decide (p<=122)=false:=by simpa using r1
     go_wp2
     go_quiet (first|(go_at_call 104;refine Calls.quiet_of (HE.o _)))
     go_wp2
     go_ret
     exact⟨(by rw[HSS.o,hE.o];first|rfl|skip),by
      have:=HRr.o.drewN nq
      rw[HJ.o]at this
      rw[hnl.o];exact this,HV.o.drewN nq⟩
  ·have hE:Hid (aH l i=(l.drop i).take k):=by
    subst hj
    exact vN hn (fun ⟨hh,_⟩=>h2 (by omega))
   have e1:decide (len<=j)=true:=by simp;omega
   rw[e1]at HE
   rw[hvs]at c0
   clear e1 hn hr hv hlen hj hat ho hvs
   have hnl:Hid ((aH l i).length=k):=by show _=_;rw[hE.o];exact vt HN.o
   have hcv:∀q,(convert 59 9 (.slice ao k ca)).run prog (wr.drewN q)=.ok (.string (bE ((l.drop i).take k))) (wr.drewN q):=fun q=>TK.gD (w:=wr.drewN q) HO.o
   obtain⟨S,hS⟩:∃S,S=bE ((l.drop i).take k):=⟨_,rfl⟩
   rw[<- hS]at hcv
   have HSS:=I hS
   clear hS
   go_wp2
   go_quiet (first|(go_at_call 104;refine Calls.quiet_of (HE.o _)))
   go_wp2
   go_ret
   exact⟨(by rw[HSS.o,hE.o];first|rfl|skip),by
    have:=HRr.o.drewN nq
    rw[HJ.o]at this
    rw[hnl.o];exact this,HV.o.drewN nq⟩
end Go.Proofs.YtklbbbldalmnbaaGreatDoor.Br
