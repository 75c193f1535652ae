import Derived.Test.YtklbbbldalmnbaaGreatDoorLA
import Derived.Defers
import Derived.Recover
import Derived.RegionTactic
set_option maxHeartbeats 16000000
set_option linter.unusedVariables false
set_option maxRecDepth 100000
open Go.Proofs.Tryz
namespace Go.Proofs.YtklbbbldalmnbaaGreatDoor.Br
open Go.RowKit
open TK (Mv bJ bU bE aS)
variable {w w' : World} {b : Nat} {v : Value} {l : List Int} {i : Nat} {d : Int} {fo : Bool}
structure uN(rec:Rec)(l:List Int)(first deep k:Nat)(f:PS)(d:Int)(fo:Bool)(m:Nat)(g:PS):Prop where
 rest:∃n,fA (par d fo) rec l first deep (l.length+2 - k) k f=fA (par d fo) rec l first deep n m g/\l.length+2<=n+m
 km:k<=m
theorem xT(rec:Rec)(l:List Int)(first deep k:Nat)(f:PS)(d:Int)(fo:Bool)(hk:k<=l.length):uN rec l first deep k f d fo k f:=⟨⟨_,rfl,by omega⟩,U _⟩
theorem wS{rec:Rec}{first deep k m:Nat}{f g:PS}(h:uN rec l first deep k f d fo m g)(hm:m<=l.length)(ha:((d==1)&&aX l m [38,38])=false):fA (par d fo) rec l first deep (l.length+2 - k) k f=.ok (g,m):=by
 obtain⟨⟨n,h1,h2⟩,h3⟩:=h
 obtain⟨n,rfl⟩:∃n',n=n'+1:=⟨n - 1,by omega⟩
 rw[h1]
 unfold fA
 exact if_neg (by rw[show kr (par d fo) l m=false from ha];simp)
theorem nJ{rec:Rec}{first deep k m:Nat}{f g:PS}(h:uN rec l first deep k f d fo m g)(hm:m<=l.length)(ha:((d==1)&&aX l m [38,38])=true):∃n,l.length+2<=n+1+m/\fA (par d fo) rec l first deep (l.length+2 - k) k f=(match eS (par d fo) rec l first deep (m+2)with
   | .error e=>.error e
   | .ok (f,k)=>match lO (par d fo) g f with
    | .error e=>.error e
    | .ok g=>fA (par d fo) rec l first deep n k g):=by
 obtain⟨⟨n,h1,h2⟩,h3⟩:=h
 obtain⟨n,rfl⟩:∃n',n=n'+1:=⟨n - 1,by omega⟩
 refine⟨n,h2,?_⟩
 rw[h1]
 conv=>lhs;unfold fA
 exact if_pos ha
theorem Be{rec:Rec}{first deep k m k2:Nat}{f g f2 g2:PS}(h:uN rec l first deep k f d fo m g)(hm:m<=l.length)(ha:((d==1)&&aX l m [38,38])=true)(hp:eS (par d fo) rec l first deep (m+2)=.ok (f2,k2))(hk2:m+2<k2)(hme:lO (par d fo) g f2=.ok g2):uN rec l first deep k f d fo k2 g2:=by
 obtain⟨n,h1,h2⟩:=nJ h hm ha
 rw[hp]at h2
 simp only[hme]at h2
 exact⟨⟨n,h2,by omega⟩,by have:=h.km;omega⟩
theorem CH{rec:Rec}{first deep k m:Nat}{f g:PS}{z:BE}(h:uN rec l first deep k f d fo m g)(hm:m<=l.length)(ha:((d==1)&&aX l m [38,38])=true)(hp:eS (par d fo) rec l first deep (m+2)=.error z):fA (par d fo) rec l first deep (l.length+2 - k) k f=.error z:=by
 obtain⟨n,h1,h2⟩:=nJ h hm ha
 rw[hp]at h2
 exact h2
theorem Av{rec:Rec}{first deep k m k2:Nat}{f g f2:PS}{z:BE}(h:uN rec l first deep k f d fo m g)(hm:m<=l.length)(ha:((d==1)&&aX l m [38,38])=true)(hp:eS (par d fo) rec l first deep (m+2)=.ok (f2,k2))(hme:lO (par d fo) g f2=.error z):fA (par d fo) rec l first deep (l.length+2 - k) k f=.error z:=by
 obtain⟨n,h1,h2⟩:=nJ h hm ha
 rw[hp]at h2
 simp only[hme]at h2
 exact h2
theorem BX{rec:Rec}{deep:Nat}{z:BE}(hp:eS (par d fo) rec l i deep i=.error z):gv (par d fo) rec l i deep=.error z:=by unfold gv;rw[hp]
theorem tf{rec:Rec}{deep k:Nat}{f:PS}{z:BE}(hp:eS (par d fo) rec l i deep i=.ok (f,k))(ha:fA (par d fo) rec l i deep (l.length+2 - k) k f=.error z):gv (par d fo) rec l i deep=.error z:=by unfold gv;rw[hp];simp only[ha]
theorem zQ{rec:Rec}{deep k m:Nat}{f g:PS}(hp:eS (par d fo) rec l i deep i=.ok (f,k))(ha:fA (par d fo) rec l i deep (l.length+2 - k) k f=.ok (g,m)):gv (par d fo) rec l i deep=.ok (g,if aX l m [93]then m+1 else m):=by unfold gv;rw[hp];simp only[ha]
theorem FO{rec:Rec}{deep:Nat}(h:aX l i [94]=false):iW (par d fo) rec l i deep=gv (par d fo) rec l i deep:=by unfold iW;exact if_neg (by rw[h];simp)
theorem E9{rec:Rec}{deep:Nat}(h:aX l i [94]=true):iW (par d fo) rec l i deep=match gv (par d fo) rec l (i+1) deep with
  | .error e=>.error e
  | .ok (f,k)=>match mr (par d fo) f with
   | .error e=>.error e
   | .ok g=>.ok (g,k):=by unfold iW;exact if_pos h
noncomputable def H9(d:Int)(fo turned:Bool)(B:Except BE (PS×Nat)):Except BE (PS×Nat):=if turned then(match B with
  | .error e=>.error e
  | .ok (f,k)=>match mr (par d fo) f with
   | .error e=>.error e
   | .ok g=>.ok (g,k))else B
theorem uQ{rec:Rec}{deep:Nat}:iW (par d fo) rec l i deep=H9 d fo (aX l i [94]) (gv (par d fo) rec l (if aX l i [94]then i+1 else i) deep):=by
 cases h:aX l i [94]with
 |true=>rw[E9 h];rfl
 |false=>rw[FO h];rfl
theorem pB{z:BE}(t:Bool):H9 d fo t (.error z)=.error z:=by cases t<;>rfl
theorem Eh(rec:Rec)(deep:Nat)(hdp:deep<=20)(hrec:deep<20->gL rec b v l d fo (deep+1))(h:BB w b v l i d fo):Calls prog 171 #[.pointer (some ⟨b,0,none⟩),.int .i64 deep] w fun e w'=>dQ (iW (par d fo) rec l i deep) b v l i d fo w e w':=by
 have hat:=h.at'
 have hsm:=h.small
 have hbw:=h.lt
 have HPa:=I (fun w1 first k (hr:BB w1 b v l k d fo)=>nk rec first deep hdp hrec hr)
 have HS:=I (lF h 94)
 have hE:=uQ (d:=d) (fo:=fo) (l:=l) (i:=i) (rec:=rec) (deep:=deep)
 obtain⟨R,hRR⟩:∃R:Except BE (PS×Nat),R=iW (par d fo) rec l i deep:=⟨_,rfl⟩
 rw[<- hRR]at hE |-
 obtain⟨T,hT⟩:∃T,T=aX l i [94]:=⟨_,rfl⟩
 rw[<- hT]at HS hE
 obtain⟨j,hj⟩:∃j,j=if T=true then i+1 else i:=⟨_,rfl⟩
 rw[<- hj]at HS hE
 have HE:=I hE
 have HIJ:Hid (i<=j):=by show _<=_;rw[hj];split<;>omega
 clear h hrec hRR hE hT hj
 go_enter func171,ntmps171
 go_wp2_with fail
 refine HS.o.mono ?_
 rintro e w1 ⟨rfl,hr1,hm1⟩
 have HR1:=I hr1
 have HM1:=I hm1
 obtain⟨c0,c1,c2,c3,f1⟩:=hr1.cells
 have HX:=I (HPa.o w1 j j hr1)
 clear hr1 hm1 HS c0 c2 c3 f1
 go_wp2_with fail
 refine HX.o.mono ?_
 rintro e w2 (⟨f,k,sv,L,hp,rfl,ho2,hs2,hr2,hjk,hm2⟩|⟨z,a,hp,rfl,hm2⟩)
 case inr=>
  have HEz:Hid (R=.error (z,a)):=HE.o.trans (by rw[BX hp];exact pB T)
  have HM2:=I (HM1.o.trans hm2)
  clear hp hm2 HX HPa
  simp only[aw]
  go_wp2
  exact⟨rfl,.inr ⟨z,a,HEz.o,rfl,HM2.o⟩⟩
 have HP:=I hp
 have HM2:=I (HM1.o.trans hm2)
 have HO2:=I (ho2.low HM1.o.size)
 have HS2:=I hs2
 have HR2:=I hr2
 have HJK:=I hjk
 have HA0:=I (xT rec l j deep k f d fo hr2.at')
 obtain⟨ao,ca,hsv⟩:=ho2.shape
 rw[hsv]at HO2 |-
 clear hp ho2 hs2 hr2 hjk hm2 hsv HX HR1 HM1 c1
 go_wp2
 go_loopw [7] (fun u wr=>∃(m:Nat) (g:PS) (G:RL),uN rec l j deep k f d fo m g/\OR wr w.heap.size u G/\bg g G/\BB wr b v l m d fo/\Mv b w wr) (fun _ wr=>300 - tX wr b)
 case atStart=>exact⟨k,f,L,HA0.o,HO2.o,HS2.o,HR2.o,HM2.o⟩
 case round=>
  obtain⟨m,g,G,hA,ho,hg,hr,hv⟩:=hrel
  have HA:=I hA
  have HO:=I ho
  have HG:=I hg
  have HR:=I hr
  have HV:=I hv
  have hml:=hr.at'
  have hAt:=I hr.tX
  obtain⟨uo,uc,hu⟩:=ho.shape
  obtain⟨n,hn⟩:∃n,n=G.length:=⟨_,rfl⟩
  rw[<- hn]at hu
  have HU:=I hu
  rw[hu]
  clear hA ho hg hr hv hn hu HA0 HO2 HS2 HR2 HM2
  cases hd:(d==1)with
  |false=>
   have HEa:=I (zQ HP.o (wS HA.o hml (by rw[hd];rfl)))
   go_wp2_with fail
   refine(dx HR.o hd).mono ?_
   rintro e w3' ⟨rfl,rfl⟩
   clear hAt HPa
   obtain⟨m',hm'⟩:∃m',m'=if aX l m [93]=true then m+1 else m:=⟨_,rfl⟩
   have HIM:Hid (i<m'):=by
    show _<_
    have h1:=HIJ.o
    have h2:=HJK.o
    have h3:=HA.o.km
    rw[hm']
    split<;>omega
   have HSk:=I (lF HR.o 93)
   rw[<- hm']at HSk HEa
   obtain⟨zz,hzz⟩:∃zz,zz=aX l m [93]:=⟨_,rfl⟩
   rw[<- hzz]at HSk
   have HOx:=I HO.o
   rw[HU.o]at HOx
   clear hm' hzz HU HA HP
   go_wp2_with fail
   refine HSk.o.mono ?_
   rintro e w5 ⟨rfl,hr5,hm5⟩
   have HR5:=I hr5
   have HV5:=I (HV.o.trans hm5)
   have HO5:=I (HOx.o.mv hm5 hbw)
   clear hr5 hm5 HSk HOx HR HV
   cases T with
   |false=>
    have HEr:Hid (R=.ok (g,m')):=HE.o.trans (by rw[HEa.o];rfl)
    have HF:=I (dQ.oN (i:=i) HEr.o HO5.o HG.o HR5.o HIM.o HV5.o)
    clear HEa HE
    go_wp2
    go_ret
    exact HF.o
   |true=>
    have HEr:Hid (R=match mr (par d fo) g with| .error e=>.error e| .ok g=>.ok (g,m')):=HE.o.trans (by rw[HEa.o];rfl)
    have HN:=I (pc _ G w5 HO5.o.reads)
    clear HEa HE
    go_wp2_with fail
    refine HN.o.mono ?_
    rintro e w6 ⟨v6,err,O6,rfl,ho6,hmd6,hb6⟩
    have HV6:=I (Mv.then HV5.o hb6)
    have HR6:=I (HR5.o.ar hb6)
    have HO6:Hid (OR w6 w.heap.size v6 O6):=eU ho6 HV5.o.size
    obtain⟨ao6,c6,hv6⟩:=ax ho6
    obtain⟨n6,hn6⟩:∃n6,n6=O6.length:=⟨_,rfl⟩
    rw[<- hn6]at hv6
    rw[hv6]at HO6 |-
    rcases mh (d:=d) (fo:=fo) HG.o hmd6 with⟨h1,h2⟩|⟨h1,h2,h3⟩
    ·have HE2:Hid (R=.error (2,0)):=HEr.o.trans (by rw[h1])
     rw[h2]
     have HM:=I (lk ao6 n6 c6 2 (by decide) w6)
     simp only[aw]at HM
     clear h1 h2 hmd6 ho6 hv6 hb6 hn6 HN HEr HO6
     go_wp2_with fail
     refine HM.o.mono ?_
     rintro e w7 ⟨rfl,rfl⟩
     go_wp2
     exact⟨rfl,.inr ⟨2,0,HE2.o,rfl,HV6.o⟩⟩
    ·have HE2:Hid (R=.ok (fun q=>!g q,m')):=HEr.o.trans (by rw[h1])
     rw[h2]
     have HM:=I (lr ao6 n6 c6 w6)
     have HF:=I (dQ.oN (i:=i) HE2.o HO6.o h3 HR6.o HIM.o HV6.o)
     clear h1 h2 hmd6 ho6 hv6 hb6 hn6 HN HEr h3 HO6
     go_wp2_with fail
     refine HM.o.mono ?_
     rintro e w7 ⟨rfl,rfl⟩
     go_wp2
     go_ret
     exact HF.o
  |true=>
   cases h38:aX l m [38,38]with
   |false=>
    have HEa:=I (zQ HP.o (wS HA.o hml (by rw[hd,h38];rfl)))
    have HS4:=I (mE HR.o 38 38 h38)
    go_wp2_with fail
    refine(dx HR.o hd).mono ?_
    rintro e w3' ⟨rfl,rfl⟩
    go_wp2_with fail
    refine HS4.o.mono ?_
    rintro e w4 ⟨rfl,hr4,hm4⟩
    have HR4:=I hr4
    have HV4:=I (HV.o.trans hm4)
    have HO4:=I (HO.o.mv hm4 hbw)
    clear hr4 hm4 HS4 HR HV HO h38 hAt HPa
    obtain⟨m',hm'⟩:∃m',m'=if aX l m [93]=true then m+1 else m:=⟨_,rfl⟩
    have HIM:Hid (i<m'):=by
     show _<_
     have h1:=HIJ.o
     have h2:=HJK.o
     have h3:=HA.o.km
     rw[hm']
     split<;>omega
    have HSk:=I (lF HR4.o 93)
    rw[<- hm']at HSk HEa
    obtain⟨zz,hzz⟩:∃zz,zz=aX l m [93]:=⟨_,rfl⟩
    rw[<- hzz]at HSk
    have HOx:=I HO4.o
    rw[HU.o]at HOx
    clear hm' hzz HU HA HP
    go_wp2_with fail
    refine HSk.o.mono ?_
    rintro e w5 ⟨rfl,hr5,hm5⟩
    have HR5:=I hr5
    have HV5:=I (HV4.o.trans hm5)
    have HO5:=I (HOx.o.mv hm5 hbw)
    clear hr5 hm5 HSk HOx HR4 HV4
    cases T with
    |false=>
     have HEr:Hid (R=.ok (g,m')):=HE.o.trans (by rw[HEa.o];rfl)
     have HF:=I (dQ.oN (i:=i) HEr.o HO5.o HG.o HR5.o HIM.o HV5.o)
     clear HEa HE
     go_wp2
     go_ret
     exact HF.o
    |true=>
     have HEr:Hid (R=match mr (par d fo) g with| .error e=>.error e| .ok g=>.ok (g,m')):=HE.o.trans (by rw[HEa.o];rfl)
     have HN:=I (pc _ G w5 HO5.o.reads)
     clear HEa HE
     go_wp2_with fail
     refine HN.o.mono ?_
     rintro e w6 ⟨v6,err,O6,rfl,ho6,hmd6,hb6⟩
     have HV6:=I (Mv.then HV5.o hb6)
     have HR6:=I (HR5.o.ar hb6)
     have HO6:Hid (OR w6 w.heap.size v6 O6):=eU ho6 HV5.o.size
     obtain⟨ao6,c6,hv6⟩:=ax ho6
     obtain⟨n6,hn6⟩:∃n6,n6=O6.length:=⟨_,rfl⟩
     rw[<- hn6]at hv6
     rw[hv6]at HO6 |-
     rcases mh (d:=d) (fo:=fo) HG.o hmd6 with⟨h1,h2⟩|⟨h1,h2,h3⟩
     ·have HE2:Hid (R=.error (2,0)):=HEr.o.trans (by rw[h1])
      rw[h2]
      have HM:=I (lk ao6 n6 c6 2 (by decide) w6)
      simp only[aw]at HM
      clear h1 h2 hmd6 ho6 hv6 hb6 hn6 HN HEr HO6
      go_wp2_with fail
      refine HM.o.mono ?_
      rintro e w7 ⟨rfl,rfl⟩
      go_wp2
      exact⟨rfl,.inr ⟨2,0,HE2.o,rfl,HV6.o⟩⟩
     ·have HE2:Hid (R=.ok (fun q=>!g q,m')):=HEr.o.trans (by rw[h1])
      rw[h2]
      have HM:=I (lr ao6 n6 c6 w6)
      have HF:=I (dQ.oN (i:=i) HE2.o HO6.o h3 HR6.o HIM.o HV6.o)
      clear h1 h2 hmd6 ho6 hv6 hb6 hn6 HN HEr h3 HO6
      go_wp2_with fail
      refine HM.o.mono ?_
      rintro e w7 ⟨rfl,rfl⟩
      go_wp2
      go_ret
      exact HF.o
   |true=>
    have HDA:Hid (((d==1)&&aX l m [38,38])=true):=by show _=_;rw[hd,h38];rfl
    have HS4:=I (dt HR.o 38 38 h38)
    go_wp2_with fail
    refine(dx HR.o hd).mono ?_
    rintro e w3' ⟨rfl,rfl⟩
    go_wp2_with fail
    refine HS4.o.mono ?_
    rintro e w4 ⟨rfl,hr4,hm4⟩
    have HV4:=I (HV.o.trans hm4)
    have HO4:=I (HO.o.mv hm4 hbw)
    have HX:=I (HPa.o w4 j (m+2) hr4)
    clear hr4 hm4 HS4 HR HV HO h38
    go_wp2_with fail
    refine HX.o.mono ?_
    rintro e w5 (⟨f2,k2,sv2,L2,hp2,rfl,ho5,hs5,hr5,hjk5,hm5⟩|⟨z,a,hp2,rfl,hm5⟩)
    case inr=>
     have HEz:Hid (R=.error (z,a)):=HE.o.trans (by rw[tf HP.o (CH HA.o hml HDA.o hp2)];exact pB T)
     have HM5:=I (HV4.o.trans hm5)
     clear hp2 hm5 HX HPa
     simp only[aw]
     go_wp2
     exact⟨rfl,.inr ⟨z,a,HEz.o,rfl,HM5.o⟩⟩
    have HV5:=I (HV4.o.trans hm5)
    have HR5:=I hr5
    have HS5:=I hs5
    have HP2:=I hp2
    have HMK:=I hjk5
    have HOa:=I (HO4.o.mv hm5 hbw)
    have HOb:=I ho5
    have HMt:=I (CW _ sv2 G L2 w5 HOa.o.reads HOb.o.reads)
    rw[HU.o]at HMt
    obtain⟨bo,bc,hsv2⟩:=ho5.shape
    obtain⟨n2,hn2⟩:∃n2,n2=L2.length:=⟨_,rfl⟩
    rw[<- hn2]at hsv2
    rw[hsv2]at HMt |-
    clear hp2 ho5 hs5 hr5 hjk5 hm5 hsv2 hn2 HX HV4 HO4 HOa HOb
    go_wp2_with fail
    refine HMt.o.mono ?_
    rintro e w6 ⟨v6,err,O6,rfl,ho6,hmd6,hb6⟩
    have HV6:=I (Mv.then HV5.o hb6)
    have HR6:=I (HR5.o.ar hb6)
    have HO6:Hid (OR w6 w.heap.size v6 O6):=eU ho6 HV5.o.size
    obtain⟨ao6,c6,hv6⟩:=ax ho6
    obtain⟨n6,hn6⟩:∃n6,n6=O6.length:=⟨_,rfl⟩
    rw[<- hn6]at hv6
    rw[hv6]at HO6 |-
    rcases wA (d:=d) (fo:=fo) HG.o HS5.o hmd6 with⟨h1,h2⟩|⟨h1,h2,h3⟩
    ·have HE2:Hid (R=.error (2,0)):=HE.o.trans (by rw[tf HP.o (Av HA.o hml HDA.o HP2.o h1)];exact pB T)
     rw[h2]
     have HM:=I (lk ao6 n6 c6 2 (by decide) w6)
     simp only[aw]at HM
     clear h1 h2 hmd6 ho6 hv6 hb6 hn6 HMt HO6 HPa
     go_wp2_with fail
     refine HM.o.mono ?_
     rintro e w7 ⟨rfl,rfl⟩
     go_wp2
     exact⟨rfl,.inr ⟨2,0,HE2.o,rfl,HV6.o⟩⟩
    ·have HAn:=I (Be HA.o hml HDA.o HP2.o HMK.o h1)
     rw[h2]
     have HM:=I (lr ao6 n6 c6 w6)
     have H3:=I h3
     clear h1 h2 hmd6 ho6 hv6 hb6 hn6 HMt h3
     go_wp2_with fail
     refine HM.o.mono ?_
     rintro e w7 ⟨rfl,rfl⟩
     go_wp2
     go_roundw
     case rel=>exact⟨k2,_,O6,HAn.o,HO6.o,H3.o,HR6.o,HV6.o⟩
     case measure=>rw[HR6.o.tX,hAt.o];have:=HMK.o;have:=HR6.o.at';have:=HR6.o.small;omega
theorem nh:∀(n deep:Nat),deep+n=21->1<=n->gL (fl (par d fo) n) b v l d fo deep
 |0,deep,h1,h2=>by omega
 |n+1,deep,h1,h2=>fun w i h=>Eh (fl (par d fo) n) deep (by omega) (fun hd=>nh n (deep+1) (by omega) (by omega)) h
end Go.Proofs.YtklbbbldalmnbaaGreatDoor.Br
namespace Go.Proofs.YtklbbbldalmnbaaGreatDoor.Br
open Go.RowKit
open TK (Mv bJ bU bE aS eB lz)
variable {w w' : World} {b : Nat} {v : Value} {l : List Int} {i : Nat} {d : Int} {fo : Bool}
def mw(sv:Value):Obj:=.cells #[sv] 22 (0,0)
def mn(k:Int):Obj:=.cells #[.int .i64 k] 3 (0,0)
def bm(e a:Int):Obj:=.cells #[.int .i64 e,.int .i64 a] 38 (0,0)
theorem bh{N:Nat}{e a:Int}(h:w.heap[N]? =some (bm e a)):w.cell? ⟨N,0,none⟩=some (.int .i64 e)/\w.cell? ⟨N,1,none⟩=some (.int .i64 a)/\∀o,w.frozen? ⟨N,o,none⟩=false:=by
 unfold bm at h
 refine⟨?_,?_,fun o=>?_⟩<;>simp[World.cell?,World.frozen?,h]
theorem dn{N:Nat}{sv:Value}(h:w.heap[N]? =some (mw sv)):w.cell? ⟨N,0,none⟩=some sv/\w.frozen? ⟨N,0,none⟩=false:=by
 unfold mw at h
 refine⟨?_,?_⟩<;>simp[World.cell?,World.frozen?,h]
theorem jn{N:Nat}{k:Int}(h:w.heap[N]? =some (mn k)):w.cell? ⟨N,0,none⟩=some (.int .i64 k)/\w.frozen? ⟨N,0,none⟩=false:=by
 unfold mn at h
 refine⟨?_,?_⟩<;>simp[World.cell?,World.frozen?,h]
theorem iC(p q r:Addr)(w:World):
  CallsD prog 170 #[.pointer (some p),.pointer (some q),.pointer (some r)] .returning w fun e u' w'=>e=.returned (.tuple #[])/\u'=.returning/\w'=w:=by
 have hnn:∀w,(binOp .neq 20 .nilIface .nilIface).run prog w=.ok (.bool false) w:=fun w=>by kernel_rfl
 refine callsD_of_wpS func170 rfl fun c₀ cs hu=>?_
 apply wpS_seq
 apply wpS_region
 simp[wpOpsS,go_sem,recoverD,hu,ntmps170,Exit.thenS]
 apply wpS_seq
 apply wpS_region
 simp[wpOpsS,go_sem,hnn,Exit.thenS]
 refine wpS_cond (t:=false) (by simp[Act.eval,Array.replicate]) ?_
 simp only[Bool.false_eq_true,if_false]
 refine wpS_of_wp (wp_skip ?_)
 cases c₀
 simp_all [bodyPostS,results,results170]
theorem ix(n m k:Nat)(z c:Int)(w:World)(h1:n<m)(h2:m<k){sv:Value}{a e e2:Int}(ht:w.heap[n]? =some (mw sv))(hm:w.heap[m]? =some (mn a))(hk:w.heap[k]? =some (bm e e2)):
  CallsD prog 170 #[.pointer (some ⟨n,0,none⟩),.pointer (some ⟨m,0,none⟩),.pointer (some ⟨k,0,none⟩)] (.panicking [{ v:=.iface 38 (.agg #[.int .i64 z,.int .i64 c]),recovered:=false }]) w fun e u' w'=>e=.returned (.tuple #[])/\u'=.panicking [{ v:=.iface 38 (.agg #[.int .i64 z,.int .i64 c]),recovered:=true }]/\w'.heap[n]? =some (mw (.slice none 0 0))/\w'.heap[m]? =some (mn 0)/\w'.heap[k]? =some (bm z c)/\Below n w w':=by
 have hta:∀w,(Instr.typeAssert (.iface 38 (.agg #[.int .i64 z,.int .i64 c])) 20 38 false).run prog w=.ok (.agg #[.int .i64 z,.int .i64 c]) w:=fun w=>by kernel_rfl
 have hnn:∀x w,(binOp .neq 20 (.iface 38 x) .nilIface).run prog w=.ok (.bool true) w:=fun x w=>by rfl
 refine callsD_of_wpS func170 rfl fun c₀ cs hu=>?_
 apply wpS_seq
 apply wpS_region
 simp[wpOpsS,go_sem,recoverD,hu,ntmps170,Exit.thenS]
 apply wpS_seq
 apply wpS_region
 simp[wpOpsS,go_sem,hnn,Exit.thenS]
 refine wpS_cond (t:=true) (by simp[Act.eval,Array.replicate]) ?_
 simp only[if_true]
 refine wpS_of_wp ?_
 obtain⟨m0,fr0⟩:=dn ht
 obtain⟨cm,fm⟩:=jn hm
 obtain⟨ck,ck2,fk⟩:=bh hk
 have q1:¬n=m:=by omega
 have q2:¬m=n:=by omega
 have q3:¬n=k:=by omega
 have q4:¬k=n:=by omega
 have q5:¬m=k:=by omega
 have q6:¬k=m:=by omega
 have ne_nm:∀(X:World) u,(X.setCell ⟨m,0,none⟩ u).heap[n]? =X.heap[n]? :=fun X u=>Below.heap_setCell _ _ _ _ q1
 have ne_nk:∀(X:World) o u,(X.setCell ⟨k,o,none⟩ u).heap[n]? =X.heap[n]? :=fun X o u=>Below.heap_setCell _ _ _ _ q3
 have ne_mn:∀(X:World) u,(X.setCell ⟨n,0,none⟩ u).heap[m]? =X.heap[m]? :=fun X u=>Below.heap_setCell _ _ _ _ q2
 have ne_mk:∀(X:World) o u,(X.setCell ⟨k,o,none⟩ u).heap[m]? =X.heap[m]? :=fun X o u=>Below.heap_setCell _ _ _ _ q5
 have ne_kn:∀(X:World) u,(X.setCell ⟨n,0,none⟩ u).heap[k]? =X.heap[k]? :=fun X u=>Below.heap_setCell _ _ _ _ q4
 have ne_km:∀(X:World) u,(X.setCell ⟨m,0,none⟩ u).heap[k]? =X.heap[k]? :=fun X u=>Below.heap_setCell _ _ _ _ q6
 have dr:∀(X:World),X.drew.heap=X.heap:=fun X=>rfl
 unfold mw at ht
 unfold mn at hm
 unfold bm at hk
 go_region
 all_goals
  refine⟨rfl,_,rfl,.tuple #[],by simp[results,results170],rfl,rfl,?_,?_,?_,?_⟩
  ·simp only[dr,ne_nm,ne_nk,eB,ht,Option.map_some,mw]
   simp
  ·simp only[dr,ne_mn,ne_mk,eB,hm,Option.map_some,mn]
   simp
  ·simp only[dr,ne_kn,ne_km,eB,hk,Option.map_some,bm]
   simp
  ·refine Below.drew ?_
   repeat refine Below.setCell ?_ (by first|exact U _|exact Nat.le_of_lt h1|exact Nat.le_of_lt (Nat.lt_trans h1 h2)) _
   exact J _ _
abbrev J7(N:Nat):List Deferred:=[{ target:=Target.fn (Fn.func 170) #[.pointer (some ⟨N,0,none⟩),.pointer (some ⟨N+1,0,none⟩),.pointer (some ⟨N+1+1,0,none⟩)],args:=#[] }]
theorem gx{tmps:Array Value}{W:World}{N:Nat}{sv:Value}{k e a:Int}{R:Ending->World->Prop}(h8:tmps[8]? =some (.pointer (some ⟨N,0,none⟩)))(h9:tmps[9]? =some (.pointer (some ⟨N+1,0,none⟩)))(h10:tmps[10]? =some (.pointer (some ⟨N+1+1,0,none⟩)))
  (q0:W.heap[N]? =some (mw sv)) (q1:W.heap[N+1]? =some (mn k)) (q2:W.heap[N+1+1]? =some (bm e a)) (hF:R (.returned (.tuple #[sv,.int .i64 k,.agg #[.int .i64 e,.int .i64 a]])) W):
  bodyPostD prog Tryz.f153 R Exit.ret { tmps:=tmps,defers:=J7 N } W:=by
 obtain⟨m0, -⟩:=dn q0
 obtain⟨c1, -⟩:=jn q1
 obtain⟨c2,c3, -⟩:=bh q2
 refine leaves_cons (f:=170) (args:=#[.pointer (some ⟨N,0,none⟩),.pointer (some ⟨N+1,0,none⟩),.pointer (some ⟨N+1+1,0,none⟩)]) (by simp) (by simp[go_sem]) ?_
 refine(iC _ _ _ _).mono ?_
 rintro e u' w2 ⟨rfl,rfl,rfl⟩
 simp[Leaves,settle,results,results153,go_sem,h8,h9,h10,m0,c1,c2,c3]
 exact hF
theorem sb{tmps:Array Value}{W:World}{N:Nat}{sv:Value}{k e a z c:Int}{R:Ending->World->Prop}(h8:tmps[8]? =some (.pointer (some ⟨N,0,none⟩)))(h9:tmps[9]? =some (.pointer (some ⟨N+1,0,none⟩)))(h10:tmps[10]? =some (.pointer (some ⟨N+1+1,0,none⟩)))
  (q0:W.heap[N]? =some (mw sv)) (q1:W.heap[N+1]? =some (mn k)) (q2:W.heap[N+1+1]? =some (bm e a)) (hF:∀W',Below N W W'->R (.returned (.tuple #[.slice none 0 0,.int .i64 0,.agg #[.int .i64 z,.int .i64 c]])) W'):
  bodyPostD prog Tryz.f153 R (Exit.panic [{ v:=.iface 38 (.agg #[.int .i64 z,.int .i64 c]),recovered:=false }]) { tmps:=tmps,defers:=J7 N } W:=by
 refine leaves_cons (f:=170) (args:=#[.pointer (some ⟨N,0,none⟩),.pointer (some ⟨N+1,0,none⟩),.pointer (some ⟨N+1+1,0,none⟩)]) (by simp) (by simp[go_sem]) ?_
 refine(ix N (N+1) (N+1+1) z c W (by omega) (by omega) q0 q1 q2).mono ?_
 rintro e u' w2 ⟨rfl,rfl,k0,k1,k2,hb⟩
 obtain⟨m0, -⟩:=dn k0
 obtain⟨c1, -⟩:=jn k1
 obtain⟨c2,c3, -⟩:=bh k2
 have hG:=hF w2 hb
 simp[Leaves,settle,results,results153,go_sem,h8,h9,h10,m0,c1,c2,c3]
 exact hG
end Go.Proofs.YtklbbbldalmnbaaGreatDoor.Br
