import Derived.Test.YtklbbbldalmnbaaGreatDoorKX
import Derived.Test.YtklbbbldalmnbaaGreatDoorKY
import Derived.Test.YtklbbbldalmnbaaGreatDoorKZ
import Derived.Test.YtklbbbldalmnbaaGreatDoorKL
import Derived.Test.YtklbbbldalmnbaaGreatDoorBb5
import Derived.Laws.AppendOwnNone
set_option maxHeartbeats 16000000
set_option linter.unusedVariables false
set_option maxRecDepth 100000
open Go.Proofs.Tryz
namespace Go.Proofs.YtklbbbldalmnbaaGreatDoor.Br
open Go.RowKit
open TK (Mv bJ bU bE aS)
variable {w w' : World} {b : Nat} {v : Value} {l : List Int} {i : Nat} {d : Int} {fo : Bool}
theorem xd(h:BB w b v l i d fo):Calls prog 220 #[.pointer (some ⟨b,0,none⟩)] w fun e w'=>ru (dJ (par d fo) l i) b v l i d fo w e w':=by
 by_cases hi:i<l.length
 ·cases hd:(d==1)with
  |false=>exact FG h hi hd
  |true=>
   cases h92:aX l i [92]with
   |false=>exact FW h hi hd h92
   |true=>
    cases hR:TK.aQ 1 l i with
    |error z=>exact yI h hi hd h92 hR (by have:=TK.qK hR;unfold TK.oO at this;omega)
    |ok x=>
     obtain⟨t,k⟩:=x
     by_cases h1:t.kind=1
     ·exact zq h hi hd h92 hR h1
     ·by_cases h4:t.kind=4
      ·exact xR h hi hd h92 hR h4
      ·exact ze h hi hd h92 hR h1 h4
 ·exact EB h (by omega)
def j8(R:Except BE (Int×Nat))(b:Nat)(v:Value)(l:List Int)(i:Nat)(a:Int)(d:Int)(fo:Bool)(w:World)(e:Ending)(w':World):Prop:=
 (∃q k,R=.ok (q,k)/\e=.returned (.int .i64 q)/\a<=q/\q<=1114111/\BB w' b v l k d fo/\i<k/\Mv b w w')\/(∃z c:Int,R=.error (z,c)/\e=aw z c/\Mv b w w')
theorem tU{a:Int}(h:(bZ l i||((d==1)&&aX l i [91]&&!bZ l i)||((d==1)&&aX l i [38,38]))=true):iD (par d fo) l i a=.error (1,(i:Int)):=by
 unfold iD
 exact if_pos h
theorem DE{a:Int}(h:(bZ l i||((d==1)&&aX l i [91]&&!bZ l i)||((d==1)&&aX l i [38,38]))=false):iD (par d fo) l i a=match dJ (par d fo) l i with
  | .error e=>.error e
  | .ok (.cls _ _,_)=>.error (1,(i:Int))
  | .ok (.pt q,k)=>if q<a then .error (3,(i:Int))else .ok (q,k):=by
 unfold iD
 exact if_neg (by rw[show (bZ l i||um (par d fo) l i||kr (par d fo) l i)=false from h];simp)
theorem iH(h:BB w b v l i d fo){z:Bool}(hz:bZ l i=z):Calls prog 216 #[.pointer (some ⟨b,0,none⟩)] w fun e w'=>e=.returned (.bool z)/\BB w' b v l i d fo/\Below w.heap.size w w':=by
 have:=oI h
 rw[hz]at this
 exact this.mono fun e w' ⟨h1,h2⟩=>⟨h1,h.ar h2,h2⟩
theorem jl(h:BB w b v l i d fo){z:Bool}(hz:((d==1)&&aX l i [91]&&!bZ l i)=z):Calls prog 218 #[.pointer (some ⟨b,0,none⟩)] w fun e w'=>e=.returned (.bool z)/\BB w' b v l i d fo/\Below w.heap.size w w':=by
 have:=th h
 rw[hz]at this
 exact this.mono fun e w' ⟨h1,h2⟩=>⟨h1,h.ar h2,h2⟩
theorem EG(h:BB w b v l i d fo){z:Bool}(hz:((d==1)&&aX l i [38,38])=z):Calls prog 215 #[.pointer (some ⟨b,0,none⟩)] w fun e w'=>e=.returned (.bool z)/\BB w' b v l i d fo/\Below w.heap.size w w':=by
 have:=nS h
 rw[hz]at this
 exact this.mono fun e w' ⟨h1,h2⟩=>⟨h1,h.ar h2,h2⟩
theorem vR(h:BB w b v l i d fo){z:Bool}(hz:mU l i=z):Calls prog 222 #[.pointer (some ⟨b,0,none⟩)] w fun e w'=>e=.returned (.bool z)/\BB w' b v l i d fo/\Below w.heap.size w w':=by
 have:=wk h
 rw[hz]at this
 exact this.mono fun e w' ⟨h1,h2⟩=>⟨h1,h.ar h2,h2⟩
theorem yU(a:Int)(h:BB w b v l i d fo)(h1:bZ l i=true):Calls prog 223 #[.pointer (some ⟨b,0,none⟩),.int .i64 a] w fun e w'=>j8 (iD (par d fo) l i a) b v l i a d fo w e w':=by
 obtain⟨c0,c1,c2,c3,f1⟩:=h.cells
 have hE:=I (tU (fo:=fo) (a:=a) (d:=d) (l:=l) (i:=i) (by rw[h1];simp))
 have HR:=I h
 have HG:=I (fun W=>aO 1 (i:Int) W)
 simp only[aw]at HG
 clear h c0 c2 c3 f1
 go_enter func223,ntmps223
 go_wp2_with fail
 refine(iH HR.o h1).mono ?_
 rintro e w1 ⟨rfl,hr1,hb1⟩
 have HR1:=I hr1
 have HB1:=I (hb1)
 clear hr1 hb1
 go_wp2_with fail
 refine(HG.o _).mono ?_
 rintro e w9 ⟨rfl,rfl⟩
 go_wp2
 exact⟨rfl,.inr ⟨1,_,hE.o,rfl,Mv.ae HB1.o⟩⟩
theorem zd(a:Int)(h:BB w b v l i d fo)(h1:bZ l i=false)(h2:((d==1)&&aX l i [91]&&!bZ l i)=true):Calls prog 223 #[.pointer (some ⟨b,0,none⟩),.int .i64 a] w fun e w'=>j8 (iD (par d fo) l i a) b v l i a d fo w e w':=by
 obtain⟨c0,c1,c2,c3,f1⟩:=h.cells
 have hE:=I (tU (fo:=fo) (a:=a) (d:=d) (l:=l) (i:=i) (by rw[h2];simp))
 have HR:=I h
 have HG:=I (fun W=>aO 1 (i:Int) W)
 simp only[aw]at HG
 clear h c0 c2 c3 f1
 go_enter func223,ntmps223
 go_wp2_with fail
 refine(iH HR.o h1).mono ?_
 rintro e w1 ⟨rfl,hr1,hb1⟩
 have HR1:=I hr1
 have HB1:=I (hb1)
 clear hr1 hb1
 go_wp2_with fail
 refine(jl HR1.o h2).mono ?_
 rintro e w2 ⟨rfl,hr2,hb2⟩
 have HR2:=I hr2
 have HB2:=I (HB1.o.trans (hb2.mono HB1.o.size))
 clear hr2 hb2
 go_wp2_with fail
 refine(HG.o _).mono ?_
 rintro e w9 ⟨rfl,rfl⟩
 go_wp2
 exact⟨rfl,.inr ⟨1,_,hE.o,rfl,Mv.ae HB2.o⟩⟩
theorem zo(a:Int)(h:BB w b v l i d fo)(h1:bZ l i=false)(h2:((d==1)&&aX l i [91]&&!bZ l i)=false)(h3:((d==1)&&aX l i [38,38])=true):Calls prog 223 #[.pointer (some ⟨b,0,none⟩),.int .i64 a] w fun e w'=>j8 (iD (par d fo) l i a) b v l i a d fo w e w':=by
 obtain⟨c0,c1,c2,c3,f1⟩:=h.cells
 have hE:=I (tU (fo:=fo) (a:=a) (d:=d) (l:=l) (i:=i) (by rw[h3];simp))
 have HR:=I h
 have HG:=I (fun W=>aO 1 (i:Int) W)
 simp only[aw]at HG
 clear h c0 c2 c3 f1
 go_enter func223,ntmps223
 go_wp2_with fail
 refine(iH HR.o h1).mono ?_
 rintro e w1 ⟨rfl,hr1,hb1⟩
 have HR1:=I hr1
 have HB1:=I (hb1)
 clear hr1 hb1
 go_wp2_with fail
 refine(jl HR1.o h2).mono ?_
 rintro e w2 ⟨rfl,hr2,hb2⟩
 have HR2:=I hr2
 have HB2:=I (HB1.o.trans (hb2.mono HB1.o.size))
 clear hr2 hb2
 go_wp2_with fail
 refine(EG HR2.o h3).mono ?_
 rintro e w3 ⟨rfl,hr3,hb3⟩
 have HR3:=I hr3
 have HB3:=I (HB2.o.trans (hb3.mono HB2.o.size))
 clear hr3 hb3
 go_wp2_with fail
 refine(HG.o _).mono ?_
 rintro e w9 ⟨rfl,rfl⟩
 go_wp2
 exact⟨rfl,.inr ⟨1,_,hE.o,rfl,Mv.ae HB3.o⟩⟩
theorem yc(a:Int)(ha:0<=a)(h:BB w b v l i d fo)(h1:bZ l i=false)(h2:((d==1)&&aX l i [91]&&!bZ l i)=false)(h3:((d==1)&&aX l i [38,38])=false):Calls prog 223 #[.pointer (some ⟨b,0,none⟩),.int .i64 a] w fun e w'=>j8 (iD (par d fo) l i a) b v l i a d fo w e w':=by
 obtain⟨c0,c1,c2,c3,f1⟩:=h.cells
 have hE:=I (DE (fo:=fo) (a:=a) (d:=d) (l:=l) (i:=i) (by rw[h1]at h2 |-;rw[h2,h3];rfl))
 have HR:=I h
 have HG:=I (fun z W=>aO z (i:Int) W)
 simp only[aw]at HG
 clear h c0 c2 c3 f1
 go_enter func223,ntmps223
 go_wp2_with fail
 refine(iH HR.o h1).mono ?_
 rintro e w1 ⟨rfl,hr1,hb1⟩
 have HR1:=I hr1
 have HB1:=I hb1
 clear hr1 hb1
 go_wp2_with fail
 refine(jl HR1.o h2).mono ?_
 rintro e w2 ⟨rfl,hr2,hb2⟩
 have HR2:=I hr2
 have HB2:=I (HB1.o.trans (hb2.mono HB1.o.size))
 clear hr2 hb2
 go_wp2_with fail
 refine(EG HR2.o h3).mono ?_
 rintro e w3 ⟨rfl,hr3,hb3⟩
 have HR3:=I hr3
 have HB3:=I (HB2.o.trans (hb3.mono HB2.o.size))
 clear hr3 hb3 HR HR1 HR2 HB1 HB2 h1 h2 h3
 go_wp2_with fail
 refine(xd HR3.o).mono ?_
 rintro e w4 (⟨x,k,t,hR,rfl,hwd,hpt,hr4,hik,hm4⟩|⟨z,hR,rfl,hm4⟩)
 ·have HM4:=I ((Mv.ae (b:=b) HB3.o).trans hm4)
  have HR4:=I hr4
  have HIK:=I hik
  simp only[TK.aZ]
  go_upto_region 5 with fail
  obtain⟨w5,hw5⟩:∃w5,w5=w4.alloc (TK.aq t):=⟨_,rfl⟩
  have hM:=TK.aj w4 (TK.aq t)
  have HR5:Hid (BB w5 b v l k d fo):=by show BB _ _ _ _ _ _ _;rw[hw5];exact hr4.alloc _
  have HM5:Hid (Mv b w w5):=by show Mv _ _ _;rw[hw5];exact HM4.o.alloc _
  rw[<- hw5]at hM
  simp only[TK.aq]at hw5
  rw[<- hw5]
  obtain⟨g0,g1,g2,g3,g4,g5,g6,g7⟩:=TK.ai hM
  obtain⟨M,hMM⟩:∃M,M=w4.heap.size:=⟨_,rfl⟩
  rw[<- hMM]at g0 g1 g2 g3 g4 g5 g6 g7 |-
  cases x with
  |cls s no=>
   have HE:Hid (iD (par d fo) l i a=.error (1,(i:Int))):=hE.o.trans (by rw[hR])
   have q1:(t.kind !=1)=true:=by rw[hwd.1];rfl
   clear hR hwd hpt hr4 hik hm4 hw5 hM hMM hE HR3 HB3 HR4 HM4 g1 g2 g3 g4 g5 g6 g7
   go_wp2_with fail
   refine(HG.o 1 _).mono ?_
   rintro e w9 ⟨rfl,rfl⟩
   go_wp2
   exact⟨rfl,.inr ⟨1,_,HE.o,rfl,HM5.o⟩⟩
  |pt q=>
   have q1:(t.kind !=1)=false:=by rw[hwd.1];rfl
   have hq:t.num=q:=hwd.2
   obtain⟨hp0,hp1⟩:=hpt hwd.1
   rw[hq]at g1 hp0 hp1
   have HE0:Hid (iD (par d fo) l i a=if q<a then .error (3,(i:Int))else .ok (q,k)):=hE.o.trans (by rw[hR])
   clear hR hwd hpt hr4 hik hm4 hw5 hM hMM hE HR3 HB3 HR4 HM4 g2 g3 g4 g5 g6 g7 hq
   by_cases hlt:q<a
   ·have HE:Hid (iD (par d fo) l i a=.error (3,(i:Int))):=HE0.o.trans (if_pos hlt)
    go_wp2_with fail
    refine(HG.o 3 _).mono ?_
    rintro e w9 ⟨rfl,rfl⟩
    go_wp2
    exact⟨rfl,.inr ⟨3,_,HE.o,rfl,HM5.o⟩⟩
   ·have HE:Hid (iD (par d fo) l i a=.ok (q,k)):=HE0.o.trans (if_neg hlt)
    clear HE0
    go_wp2
    go_ret
    exact .inl ⟨q,k,HE.o,rfl,by omega,hp1,HR5.o,HIK.o,HM5.o⟩
 ·have HM4:=I ((Mv.ae (b:=b) HB3.o).trans hm4)
  have HE:Hid (iD (par d fo) l i a=.error (z,(i:Int))):=hE.o.trans (by rw[hR])
  clear hR hm4 hE HR3 HB3
  simp only[aw]
  go_wp2
  exact⟨rfl,.inr ⟨z,_,HE.o,rfl,HM4.o⟩⟩
theorem tV(a:Int)(ha:0<=a)(h:BB w b v l i d fo):Calls prog 223 #[.pointer (some ⟨b,0,none⟩),.int .i64 a] w fun e w'=>j8 (iD (par d fo) l i a) b v l i a d fo w e w':=by
 cases h1:bZ l i with
 |true=>exact yU a h h1
 |false=>
  cases h2:((d==1)&&aX l i [91]&&!bZ l i)with
  |true=>exact zd a h h1 h2
  |false=>
   cases h3:((d==1)&&aX l i [38,38])with
   |true=>exact zo a h h1 h2 h3
   |false=>exact yc a ha h h1 h2 h3
variable {w w' : World} {b : Nat} {v : Value} {l : List Int} {i : Nat} {d : Int} {fo : Bool}
abbrev Rec:Type:=List Int->Nat->Nat->Except BE (PS×Nat)
def gL(rec:Rec)(b:Nat)(v:Value)(l:List Int)(d:Int)(fo:Bool)(deep:Nat):Prop:=
 ∀(w:World) (i:Nat),BB w b v l i d fo->Calls prog 171 #[.pointer (some ⟨b,0,none⟩),.int .i64 deep] w fun e w'=>dQ (rec l i deep) b v l i d fo w e w'
theorem dQ.back{R:Except BE (PS×Nat)}{j:Nat}{w1:World}{e:Ending}(h:dQ R b v l j d fo w1 e w')(hij:i<=j)(hm:Mv b w w1):dQ R b v l i d fo w e w':=by
 rcases h with⟨f,k,sv,L,h1,h2,h3,h4,h5,h6,h7⟩|⟨z,a,h1,h2,h3⟩
 ·exact .inl ⟨f,k,sv,L,h1,h2,h3.low hm.size,h4,h5,by omega,hm.trans h7⟩
 ·exact .inr ⟨z,a,h1,h2,hm.trans h3⟩
theorem xY(rec:Rec)(deep:Nat)(hdp:deep<=20)(hrec:deep<20->gL rec b v l d fo (deep+1))(h:BB w b v l i d fo)(h91:aX l i [91]=true):Calls prog 219 #[.pointer (some ⟨b,0,none⟩),.int .i64 deep] w fun e w'=>dQ (if deep=20 then .error (2,(i:Int))else rec l (i+1) (deep+1)) b v l i d fo w e w':=by
 obtain⟨c0,c1,c2,c3,f1⟩:=h.cells
 have HR:=I h
 by_cases hd:deep=20
 ·rw [if_pos hd]
  subst hd
  have HG:=I (aO 2 (i:Int) w)
  simp only[aw]at HG
  clear h c0 c2 c3 f1 hrec
  go_enter func219,ntmps219
  go_wp2_with fail
  refine HG.o.mono ?_
  rintro e w1 ⟨rfl,rfl⟩
  go_wp2
  exact⟨rfl,.inr ⟨2,_,rfl,rfl,Mv.refl _ _⟩⟩
 ·rw [if_neg hd]
  have HS:=I (jw h 91 h91)
  have HC:=I (hrec (by omega))
  have q1:((deep:Int)==20)=false:=by simp;omega
  have q2:¬(deep:Int)=20:=by omega
  clear h c0 c2 c3 f1 hrec hd h91
  go_enter func219,ntmps219
  go_wp2_with fail
  refine HS.o.mono ?_
  rintro e w1 ⟨rfl,hr1,hm1⟩
  have HM1:=I hm1
  have HX:=I (HC.o w1 (i+1) hr1)
  rw[show ((deep+1:Nat):Int)=(deep:Int)+1 from by omega]at HX
  clear hr1 hm1 HS
  go_wp2_with fail
  refine HX.o.mono ?_
  rintro e w2 (⟨f,k,sv,L,h1,rfl,h3,h4,h5,h6,h7⟩|⟨z,a,h1,rfl,h3⟩)
  ·have HF:Hid (dQ (rec l (i+1) (deep+1)) b v l i d fo w (.returned sv) w2):=.inl ⟨f,k,sv,L,h1,rfl,h3.low HM1.o.size,h4,h5,by omega,HM1.o.trans h7⟩
   obtain⟨ao,c,hv⟩:=h3.shape
   rw[hv]at HF |-
   clear h1 h3 h4 h5 h6 h7 hv HX c1
   go_wp2
   go_ret
   exact HF.o
  ·have HF:Hid (dQ (rec l (i+1) (deep+1)) b v l i d fo w (aw z a) w2):=.inr ⟨z,a,h1,rfl,HM1.o.trans h3⟩
   clear h1 h3 HX c1
   simp only[aw]at HF |-
   go_wp2
   exact⟨rfl,HF.o⟩
theorem Dl(rec:Rec)(deep:Nat)(h:bZ l i=true):fi (par d fo) rec l i deep=dT (par d fo) l i:=by unfold fi;exact if_pos h
theorem FT(rec:Rec)(deep:Nat)(h:bZ l i=false)(h2:((d==1)&&aX l i [91]&&!bZ l i)=true):fi (par d fo) rec l i deep=if deep=20 then .error (2,(i:Int))else rec l (i+1) (deep+1):=by
 unfold fi
 rw[if_neg (by rw[h];simp)]
 exact if_pos h2
theorem FN(rec:Rec)(deep:Nat)(h:bZ l i=false)(h2:((d==1)&&aX l i [91]&&!bZ l i)=false):fi (par d fo) rec l i deep=match dJ (par d fo) l i with
  | .error e=>.error e
  | .ok (.cls t no,k)=>(match fB (par d fo) t no i with| .error e=>.error e| .ok f=>.ok (f,k))
  | .ok (.pt p,k)=>
   if mU l k then(match iD (par d fo) l (k+1) p with| .error e=>.error e| .ok (q,m)=>.ok (fun x=>decide (p<=x)&&decide (x<=q),m))
   else .ok (fun x=>decide (p<=x)&&decide (x<=p),k):=by
 unfold fi
 rw[if_neg (by rw[h];simp)]
 exact if_neg (by rw[show um (par d fo) l i=false from h2];simp)
theorem one_set{p q:Int}(h0:0<=p)(h1:p<=q)(h2:q<=1114111):bg (fun x=>decide (p<=x)&&decide (x<=q)) [(p,q)]:=by
 refine⟨⟨fun r hr=>by simp at hr;subst hr;exact⟨h0,h1,h2⟩,by simp⟩,fun x=>?_⟩
 rw[Bool.eq_iff_iff]
 simp[ins]
 omega
theorem tb(W:World)(p q:Int){B:Nat}(hB:B<=W.heap.size):OR (W.alloc (.cells #[.int .i64 p,.int .i64 q] 76)) B (.slice (some ⟨W.heap.size,0,none⟩) 1 1) [(p,q)]:=by
 have h:=World.ownsRow_lit (base:=B) (e:=76) (size:=2) W #[.int .i64 p,.int .i64 q] 1 hB (by unfold maxLen;omega) (by simp)
 simpa[OR,aN,tj]using h
theorem Ib(rec:Rec)(deep:Nat)(h:BB w b v l i d fo)(h1:bZ l i=true):Calls prog 203 #[.pointer (some ⟨b,0,none⟩),.int .i64 deep] w fun e w'=>dQ (fi (par d fo) rec l i deep) b v l i d fo w e w':=by
 rw[Dl rec deep h1]
 have HR:=I h
 clear h
 go_enter func203,ntmps203
 go_wp2_with fail
 refine(iH HR.o h1).mono ?_
 rintro e w1 ⟨rfl,hr1,hb1⟩
 have HR1:=I hr1
 have HB1:=I hb1
 have HC:=I (Bj hr1 h1)
 clear hr1 hb1 h1
 go_wp2_with fail
 refine HC.o.mono ?_
 rintro e w2 ho
 have HO:=I (ho.back (U _) (Mv.ae HB1.o))
 rcases ho with⟨f,k,sv,L,h1,rfl,h3,h4,h5,h6,h7⟩|⟨z,a,h1,rfl,h3⟩
 ·obtain ⟨ao,c,hv⟩:=h3.shape
  rw[hv]at HO |-
  clear h1 h3 h4 h5 h6 h7 hv HC
  go_wp2
  go_ret
  exact HO.o
 ·clear h1 h3 HC
  simp only[aw]at HO |-
  go_wp2
  exact⟨rfl,HO.o⟩
theorem IC(rec:Rec)(deep:Nat)(hdp:deep<=20)(hrec:deep<20->gL rec b v l d fo (deep+1))(h:BB w b v l i d fo)(h1:bZ l i=false)(h2:((d==1)&&aX l i [91]&&!bZ l i)=true):Calls prog 203 #[.pointer (some ⟨b,0,none⟩),.int .i64 deep] w fun e w'=>dQ (fi (par d fo) rec l i deep) b v l i d fo w e w':=by
 rw[FT rec deep h1 h2]
 have h91:aX l i [91]=true:=by cases hh:aX l i [91]with|true=>rfl|false=>rw[hh]at h2;simp at h2
 have HR:=I h
 have HRec:=I (fun w2 (hr:BB w2 b v l i d fo)=>xY rec deep hdp hrec hr h91)
 obtain⟨R,hR⟩:∃R:Except BE (PS×Nat),R=if deep=20 then .error (2,(i:Int))else rec l (i+1) (deep+1):=⟨_,rfl⟩
 rw[<- hR]at HRec |-
 clear h hR hrec h91
 go_enter func203,ntmps203
 go_wp2_with fail
 refine(iH HR.o h1).mono ?_
 rintro e w1 ⟨rfl,hr1,hb1⟩
 have HR1:=I hr1
 have HB1:=I hb1
 clear hr1 hb1
 go_wp2_with fail
 refine(jl HR1.o h2).mono ?_
 rintro e w2 ⟨rfl,hr2,hb2⟩
 have HB2:=I (HB1.o.trans (hb2.mono HB1.o.size))
 have HC:=I (HRec.o w2 hr2)
 clear hr2 hb2 h1 h2 HRec HR HR1 HB1
 go_wp2_with fail
 refine HC.o.mono ?_
 rintro e w3 ho
 have HO:=I (ho.back (U _) (Mv.ae HB2.o))
 rcases ho with⟨f,k,sv,L,h1,rfl,h3,h4,h5,h6,h7⟩|⟨z,a,h1,rfl,h3⟩
 ·obtain ⟨ao,c,hv⟩:=h3.shape
  rw[hv]at HO |-
  clear h1 h3 h4 h5 h6 h7 hv HC
  go_wp2
  go_ret
  exact HO.o
 ·clear h1 h3 HC
  simp only[aw]at HO |-
  go_wp2
  exact⟨rfl,HO.o⟩
theorem Ie(rec:Rec)(deep:Nat)(h:BB w b v l i d fo)(h1:bZ l i=false)(h2:((d==1)&&aX l i [91]&&!bZ l i)=false):Calls prog 203 #[.pointer (some ⟨b,0,none⟩),.int .i64 deep] w fun e w'=>dQ (fi (par d fo) rec l i deep) b v l i d fo w e w':=by
 have hE:=I (FN (fo:=fo) rec deep h1 h2)
 obtain⟨R,hRR⟩:∃R:Except BE (PS×Nat),R=fi (par d fo) rec l i deep:=⟨_,rfl⟩
 rw[<- hRR]at hE |-
 have HR:=I h
 clear h hRR
 go_enter func203,ntmps203
 go_wp2_with fail
 refine(iH HR.o h1).mono ?_
 rintro e w1 ⟨rfl,hr1,hb1⟩
 have HR1:=I hr1
 have HB1:=I hb1
 clear hr1 hb1
 go_wp2_with fail
 refine(jl HR1.o h2).mono ?_
 rintro e w2 ⟨rfl,hr2,hb2⟩
 have HB2:=I (HB1.o.trans (hb2.mono HB1.o.size))
 have HR2:=I hr2
 obtain⟨c0,c1,c2,c3,f1⟩:=hr2.cells
 clear hr2 hb2 h1 h2 HR HR1 HB1 c0 c2 c3 f1
 go_wp2_with fail
 refine(xd HR2.o).mono ?_
 rintro e w3 (⟨x,k,t,hR,rfl,hwd,hpt,hr3,hik,hm3⟩|⟨z,hR,rfl,hm3⟩)
 ·have HM3:=I ((Mv.ae (b:=b) HB2.o).trans hm3)
  have HIK:=I hik
  simp only[TK.aZ]
  go_upto_region 7 with fail
  obtain⟨w5,hw5⟩:∃w5,w5=w3.alloc (TK.aq t):=⟨_,rfl⟩
  have hM:=TK.aj w3 (TK.aq t)
  have HR5:Hid (BB w5 b v l k d fo):=by show BB _ _ _ _ _ _ _;rw[hw5];exact hr3.alloc _
  have HM5:Hid (Mv b w w5):=by show Mv _ _ _;rw[hw5];exact HM3.o.alloc _
  have hMb:w3.heap.size≠b:=by have:=hr3.lt;omega
  rw[<- hw5]at hM
  simp only[TK.aq]at hw5
  rw[<- hw5]
  obtain⟨g0,g1,g2,g3,g4,g5,g6,g7⟩:=TK.ai hM
  obtain⟨M,hMM⟩:∃M,M=w3.heap.size:=⟨_,rfl⟩
  rw[<- hMM]at g0 g1 g2 g3 g4 g5 g6 g7 hM hMb |-
  have HMt:=I hM
  have HMb:=I hMb
  cases x with
  |cls s no=>
   have q1:(t.kind==4)=true:=by rw[hwd.1];rfl
   have hs:t.text=s:=hwd.2.1
   have hno:t.neg=no:=hwd.2.2
   rw[hs]at g2
   rw[hno]at g3
   have HE:Hid (R=match fB (par d fo) s no i with| .error e=>.error e| .ok f=>.ok (f,k)):=hE.o.trans (by rw[hR])
   have HP:=I (hU (d:=d) (fo:=fo) s no (i:Int) w5)
   clear hR hwd hpt hr3 hik hm3 hw5 hM hMM hMb hE HR2 HB2 HM3 g1 g4 g5 g6 g7 hs hno c1
   go_wp2_with fail
   refine HP.o.mono ?_
   rintro e w6 (⟨f,sv,L,hR,rfl,hrd,hset,hb⟩|⟨z,a,hR,rfl,hb⟩)
   ·have HE2:Hid (R=.ok (f,k)):=HE.o.trans (by simp only[hR])
    have HF:=I (dQ.oN (i:=i) HE2.o (hrd.low HM5.o.size) hset (HR5.o.ar hb) HIK.o (Mv.then HM5.o hb))
    obtain⟨ao,c,hv⟩:=hrd.shape
    rw[hv]at HF |-
    clear hR hrd hset hb hv HE HE2 HP
    go_wp2
    go_ret
    exact HF.o
   ·have HE2:Hid (R=.error (z,a)):=HE.o.trans (by simp only[hR])
    have HF:=I (Mv.then HM5.o hb)
    clear hR hb HE HP
    simp only[aw]
    go_wp2
    exact⟨rfl,.inr ⟨z,a,HE2.o,rfl,HF.o⟩⟩
  |pt p=>
   have q1:(t.kind==4)=false:=by rw[hwd.1];rfl
   have hq:t.num=p:=hwd.2
   have hpt2:=I (hpt hwd.1)
   rw[hq]at g1 hpt2
   have HQ:=I hq
   cases hrg:mU l k with
   |false=>
    have HE2:Hid (R=.ok (fun x=>decide (p<=x)&&decide (x<=p),k)):=hE.o.trans (by rw[hR];simp only[hrg,Bool.false_eq_true,if_false])
    have HG:=I (vR HR5.o hrg)
    clear hR hwd hpt hr3 hik hm3 hw5 hM hMM hMb hE HR2 HB2 HM3 g2 g3 g4 g5 g6 g7 hq c1 hrg
    go_wp2_with fail
    refine HG.o.mono ?_
    rintro e w6 ⟨rfl,hr6,hb6⟩
    have g1b:w6.cell? ⟨M,1,none⟩=some (.int .i64 p):=aE hb6 (lt_of_block HMt.o) g1
    have HF:Hid (dQ R b v l i d fo w (.returned (.slice (some ⟨w6.heap.size,0,none⟩) 1 1)) (w6.alloc (.cells #[.int .i64 p,.int .i64 p] 76))):=dQ.oN (i:=i) HE2.o (tb w6 p p (Nat.le_trans HM5.o.size hb6.size)) (one_set hpt2.o.1 (Int.le_refl _) hpt2.o.2) (hr6.alloc _) HIK.o ((Mv.then HM5.o hb6).alloc _)
    clear hr6 hb6 g0 g1 HG HMt
    go_wp2
    go_ret
    exact HF.o
   |true=>
    have h45:aX l k [45]=true:=by unfold mU at hrg;cases hh:aX l k [45]with|true=>rfl|false=>rw[hh]at hrg;simp at hrg
    have HE1:Hid (R=match iD (par d fo) l (k+1) p with| .error e=>.error e| .ok (q,m)=>.ok (fun x=>decide (p<=x)&&decide (x<=q),m)):=hE.o.trans (by rw[hR];simp only[hrg,if_true])
    have HG:=I (vR HR5.o hrg)
    clear hR hwd hpt hr3 hik hm3 hw5 hM hMM hMb hE HR2 HB2 HM3 g2 g3 g4 g5 g6 g7 hq c1 hrg
    go_wp2_with fail
    refine HG.o.mono ?_
    rintro e w6 ⟨rfl,hr6,hb6⟩
    have HM6:=I (Mv.then HM5.o hb6)
    have HMt6:Hid (w6.heap[M]? =some (TK.aq t)):=by show _=_;rw[hb6.block _ (lt_of_block HMt.o)];exact HMt.o
    have HS:=I (jw hr6 45 h45)
    clear hr6 hb6 g0 g1 HG HMt HR5 HM5 h45
    go_wp2_with fail
    refine HS.o.mono ?_
    rintro e w7 ⟨rfl,hr7,hm7⟩
    have HM7:=I (HM6.o.trans hm7)
    have hMt7:=TK.Mv.aC hm7 HMt6.o HMb.o
    have HMt7:=I hMt7
    obtain⟨g0,g1,g2,g3,g4,g5,g6,g7⟩:=TK.ai hMt7
    rw[HQ.o]at g1
    have HX:=I (tV p hpt2.o.1 hr7)
    clear hr7 hm7 hMt7 HS HM6 HMt6 g0 g2 g3 g4 g5 g6 g7
    go_wp2_with fail
    refine HX.o.mono ?_
    rintro e w8 (⟨q,m,hR8,rfl,hq1,hq2,hr8,hik8,hm8⟩|⟨z,a,hR8,rfl,hm8⟩)
    ·have HE2:Hid (R=.ok (fun x=>decide (p<=x)&&decide (x<=q),m)):=HE1.o.trans (by rw[hR8])
     have hMt8:=TK.Mv.aC hm8 HMt7.o HMb.o
     obtain⟨g0,g1',g2,g3,g4,g5,g6,g7⟩:=TK.ai hMt8
     rw[HQ.o]at g1'
     have HF:Hid (dQ R b v l i d fo w (.returned (.slice (some ⟨w8.heap.size,0,none⟩) 1 1)) (w8.alloc (.cells #[.int .i64 p,.int .i64 q] 76))):=dQ.oN (i:=i) HE2.o (tb w8 p q (Nat.le_trans HM7.o.size hm8.size)) (one_set hpt2.o.1 hq1 hq2) (hr8.alloc _) (by have:=HIK.o;omega) ((HM7.o.trans hm8).alloc _)
     clear hR8 hr8 hik8 hm8 hMt8 g0 g2 g3 g4 g5 g6 g7 HX HE1 g1 hq1 hq2
     go_wp2
     go_ret
     exact HF.o
    ·have HE2:Hid (R=.error (z,a)):=HE1.o.trans (by rw[hR8])
     have HF:=I (HM7.o.trans hm8)
     clear hR8 hm8 HX HE1 g1
     simp only[aw]
     go_wp2
     exact⟨rfl,.inr ⟨z,a,HE2.o,rfl,HF.o⟩⟩
 ·have HM3:=I ((Mv.ae (b:=b) HB2.o).trans hm3)
  have HE:Hid (R=.error (z,(i:Int))):=hE.o.trans (by rw[hR])
  clear hR hm3 hE HR2 HB2 c1
  simp only[aw]
  go_wp2
  exact⟨rfl,.inr ⟨z,_,HE.o,rfl,HM3.o⟩⟩
theorem Dy(rec:Rec)(deep:Nat)(hdp:deep<=20)(hrec:deep<20->gL rec b v l d fo (deep+1))(h:BB w b v l i d fo):Calls prog 203 #[.pointer (some ⟨b,0,none⟩),.int .i64 deep] w fun e w'=>dQ (fi (par d fo) rec l i deep) b v l i d fo w e w':=by
 cases h1:bZ l i with
 |true=>exact Ib rec deep h h1
 |false=>
  cases h2:((d==1)&&aX l i [91]&&!bZ l i)with
  |true=>exact IC rec deep hdp hrec h h1 h2
  |false=>exact Ie rec deep h h1 h2
variable {w w' : World} {b : Nat} {v : Value} {l : List Int} {i : Nat} {d : Int} {fo : Bool}
theorem IG{B e k n:Nat}{u:Value}{xs:List Value}(h:w.ownsRow B e k u n xs)(hm:Mv b w w')(hb:b<B):w'.ownsRow B e k u n xs:=by
 obtain⟨h1,h2⟩:=h
 refine⟨h1,?_⟩
 rcases h2 with h|⟨g,cap,cur,rfl,hg,hh,hn,hm',hs,ht⟩
 ·exact .inl h
 ·exact .inr ⟨g,cap,cur,rfl,hg,by rw[hm.block g (lt_of_block hh) (by omega)];exact hh,hn,hm',hs,ht⟩
theorem yi{ops:Array Oper}{rest:List Oper}{o:Oper}{a:Act}{Q:Exit->Act->World->Prop}(w:World)(hgd:o.guard=none)(s x:Operand)(ho:o.op=.call { callee:=.builtin .append,args:=#[s,x],argTypes:=#[22,22] })
  (base:Nat) (v:Value) (n:Nat) (xs:List Value) (hs:a.eval s=v) (hown:w.ownsRow base 76 2 v n xs) (u:Value) (L:RL) (hx:a.eval x=u) (hp:Reads w u L) (hr:n+L.length<=400000000) (hbase:base<=w.heap.size)
  (h:∀v' w',w'.ownsRow base 76 2 v' (n+L.length) (xs++aN L)->Below base w w'->wpList prog ops Q rest (a.put o.dst v') w'):wpList prog ops Q (o::rest) a w:=by
 obtain⟨j0,hj,hy0,hy1,hy2⟩:=info_parts vF
 rcases hp with⟨rfl,rfl⟩|⟨ad,c,rfl,hrd⟩
 ·refine wpList_append_own_none hgd s x 22 ho base 76 j0 2 underlying22 hj v n xs hs hown hx (h v w ?_ (J _ _))
  simpa[aN]using hown
 ·refine wpList_append_own w hgd s x 22 ho base 76 j0 _ 2 16 underlying22 hj hy0 hy1 hy2 rfl (by decide) v n xs hs hown ad L.length c (aN L) hx (ey L) (ve hrd) (qH L) (by unfold maxLen;omega) (by omega) hbase ?_
  intro v' w' h1 h2 _
  exact h v' w' h1 ((J base w).grown h2 hbase (fun g hg=>(hown.lt g hg).1))
def tX(w:World)(b:Nat):Nat:=match w.cell? ⟨b,1,none⟩with|some (.int _ n)=>n.toNat|_=>0
theorem BB.tX(h:BB w b v l i d fo):Br.tX w b=i:=by unfold Br.tX;rw[h.cells.2.1];simp
theorem Ge{f:PS}{L:RL}(h:bg f L):L.length<=1114112:=by
 have:=nF h.1 1114112 (by omega) (fun x hx=>by have:=h.1.1 x hx;unfold er at this;omega)
 omega
structure rO(rec:Rec)(l:List Int)(first deep i:Nat)(d:Int)(fo:Bool)(k:Nat)(acc:PS)(L:RL):Prop where
 rest:∃n,eN (par d fo) rec l first deep (l.length+2 - i) i (fun _=>false)=eN (par d fo) rec l first deep n k acc/\l.length+2<=n+k
 ik:i<=k
 ok:∀r∈L,er r
 is:∀q,ins L q=(decide (0<=q)&&decide (q<=1114111)&&acc q)
 len:L.length<=1114112*(k - i)
theorem xr(rec:Rec)(l:List Int)(first deep i:Nat)(d:Int)(fo:Bool)(hi:i<=l.length):rO rec l first deep i d fo i (fun _=>false) []:=
 ⟨⟨_,rfl,by omega⟩,U _,by simp,fun q=>by simp[ins],by simp⟩
theorem yG{rec:Rec}{first deep k m:Nat}{acc f:PS}{L M:RL}(h:rO rec l first deep i d fo k acc L)(hk:k<=l.length)(he:fH (par d fo) l first k=false)(hi:fi (par d fo) rec l k deep=.ok (f,m))(hm:k<m)(hf:bg f M):rO rec l first deep i d fo m (fun x=>acc x||f x) (L++M):=by
 obtain⟨⟨n,h1,h2⟩,h3,h4,h5,h6⟩:=h
 obtain⟨n,rfl⟩:∃n',n=n'+1:=⟨n - 1,by omega⟩
 refine⟨⟨n,?_,by omega⟩,by omega,?_,?_,?_⟩
 ·rw [h1]
  conv=>lhs;unfold eN
  rw[if_neg (by rw[he];simp),hi]
 ·intro r hr
  rcases List.mem_append.1 hr with hr|hr
  ·exact h4 r hr
  ·exact hf.1.1 r hr
 ·intro q
  rw[fQ,h5 q,hf.2 q]
  cases decide (0<=q)<;>cases decide (q<=1114111)<;>simp
 ·rw [List.length_append]
  have:=Ge hf
  have e:m - i=(k - i)+(m - k):=by omega
  rw[e,Nat.mul_add]
  have:1114112*1<=1114112*(m - k):=Nat.mul_le_mul_left _ (by omega)
  omega
theorem Bo{rec:Rec}{first deep k:Nat}{acc:PS}{L:RL}(h:rO rec l first deep i d fo k acc L)(hk:k<=l.length)(he:fH (par d fo) l first k=true):eN (par d fo) rec l first deep (l.length+2 - i) i (fun _=>false)=.ok (acc,k):=by
 obtain⟨⟨n,h1,h2⟩,h3,h4,h5,h6⟩:=h
 obtain⟨n,rfl⟩:∃n',n=n'+1:=⟨n - 1,by omega⟩
 rw[h1]
 unfold eN
 exact if_pos he
theorem Ay{rec:Rec}{first deep k:Nat}{acc:PS}{L:RL}{z:BE}(h:rO rec l first deep i d fo k acc L)(hk:k<=l.length)(he:fH (par d fo) l first k=false)(hi:fi (par d fo) rec l k deep=.error z):eS (par d fo) rec l first deep i=.error z:=by
 obtain⟨⟨n,h1,h2⟩,h3,h4,h5,h6⟩:=h
 obtain⟨n,rfl⟩:∃n',n=n'+1:=⟨n - 1,by omega⟩
 unfold eS
 rw[h1]
 conv=>lhs;unfold eN
 rw[if_neg (by rw[he];simp),hi]
theorem Gp{rec:Rec}{first deep k:Nat}{acc:PS}(h:eN (par d fo) rec l first deep (l.length+2 - i) i (fun _=>false)=.ok (acc,k)):eS (par d fo) rec l first deep i=if k=i then .error (1,(k:Int))else if fo then(match mY (par d fo) acc with| .error e=>.error e| .ok g=>.ok (g,k))else .ok (acc,k):=by
 unfold eS
 rw[h]
 rfl
theorem qp(first:Nat)(h:BB w b v l i d fo){z:Bool}(hz:fH (par d fo) l first i=z):Calls prog 202 #[.pointer (some ⟨b,0,none⟩),.int .i64 first] w fun e w'=>e=.returned (.bool z)/\BB w' b v l i d fo/\Below w.heap.size w w':=by
 have:=rq first h
 rw[show ((decide (i≠first)&&aX l i [93])||((d==1)&&aX l i [38,38]))=fH (par d fo) l first i from rfl,hz]at this
 exact this.mono fun e w' ⟨h1,h2⟩=>⟨h1,h.ar h2,h2⟩
theorem GQ{acc:PS}{L O:RL}(h:∀q,ins L q=(decide (0<=q)&&decide (q<=1114111)&&acc q))(hO:bg (ins L) O):bg acc O:=
 ft hO fun q h0 h1=>by rw[h q];simp[h0,h1]
theorem nk(rec:Rec)(first deep:Nat)(hdp:deep<=20)(hrec:deep<20->gL rec b v l d fo (deep+1))(h:BB w b v l i d fo):Calls prog 178 #[.pointer (some ⟨b,0,none⟩),.int .i64 first,.int .i64 deep] w fun e w'=>dQ (eS (par d fo) rec l first deep i) b v l i d fo w e w':=by
 have HR0:=I h
 have hat:=h.at'
 have hsm:=h.small
 have hbw:=h.lt
 have HXL:=I h.GS
 have HI:=I (fun w1 k (hr:BB w1 b v l k d fo)=>Dy rec deep hdp hrec hr)
 obtain⟨c0,c1,c2,c3,f1⟩:=h.cells
 have HP0:=I (xr rec l first deep i d fo hat)
 obtain⟨R,hRR⟩:∃R:Except BE (PS×Nat),R=eS (par d fo) rec l first deep i:=⟨_,rfl⟩
 have HRR:=I hRR
 rw[<- hRR]
 clear h hrec hRR c0 c2 c3 f1
 go_enter func178,ntmps178
 go_wp2
 go_loopw [8] (fun u wr=>∃(k:Nat) (acc:PS) (L:RL),rO rec l first deep i d fo k acc L/\wr.ownsRow w.heap.size 76 2 u L.length (aN L)/\BB wr b v l k d fo/\Mv b w wr) (fun _ wr=>300 - tX wr b)
 case atStart=>exact⟨i,_,[],HP0.o,World.ownsRow_nil _ _ _ _,HR0.o,Mv.refl b w⟩
 case round=>
  obtain⟨k,acc,L,hp,ho,hr,hv⟩:=hrel
  have HP:=I hp
  have HO:=I ho
  have HR:=I hr
  have HV:=I hv
  have hkl:=hr.at'
  have hik:=hp.ik
  have hlen:L.length<=400000000:=by
   have h1:=hp.len
   have h2:1114112*(k - i)<=1114112*300:=Nat.mul_le_mul_left _ (by omega)
   omega
  obtain⟨ao,ca,rfl⟩:=ax ho
  obtain⟨n,hn⟩:∃n,n=L.length:=⟨_,rfl⟩
  have HN:=I hn
  rw[<- hn]at HO hlen |-
  have hAt:=I hr.tX
  clear hp ho hr hv hn c1 HR0
  cases hpe:fH (par d fo) l first k with
  |false=>
   have HPE:=I hpe
   go_wp2_with fail
   refine(qp first HR.o hpe).mono ?_
   rintro e w1 ⟨rfl,hr1,hb1⟩
   have HV1:=I (HV.o.trans (Mv.ae hb1))
   have HO1:=I (cp HO.o hb1)
   have HX:=I (HI.o w1 k hr1)
   clear hr1 hb1 hpe
   go_wp2_with fail
   refine HX.o.mono ?_
   rintro e w2 (⟨f,m,sv,M,hR2,rfl,hrd,hset,hr2,hkm,hm2⟩|⟨z,a,hR2,rfl,hm2⟩)
   ·have HV2:=I (HV1.o.trans hm2)
    have HO2:=I (IG HO1.o hm2 hbw)
    have HPn:=I (yG HP.o hkl HPE.o hR2 hkm hset)
    have hnl:n+M.length<=400000000:=by
     have h1:=HPn.o.len
     have h3:=hr2.at'
     have h2:1114112*(m - i)<=1114112*300:=Nat.mul_le_mul_left _ (by omega)
     rw[List.length_append]at h1
     have:=HN.o
     omega
    have HRd:=I hrd.reads
    have HR2:=I hr2
    have HKM:=I hkm
    obtain⟨so,sc,hsv⟩:=hrd.shape
    rw[hsv]at HRd |-
    obtain⟨mm,hmm⟩:∃mm,mm=M.length:=⟨_,rfl⟩
    have HMM:=I hmm
    rw[<- hmm]at HRd hnl |-
    clear hR2 hrd hset hr2 hkm hm2 hsv hmm HX HV1 HO1
    go_wp2_with (at_builtin;refine yi _ rfl _ _ rfl w.heap.size _ n (aN L) rfl HO2.o _ M rfl HRd.o (by have:=HMM.o;omega) HV2.o.size ?_)
    intro v' w3 hown hb3
    rw[<- ed, <-HMM.o]at hown
    have HO3:=I hown
    have HV3:Hid (Mv b w w3):=⟨hb3.os.trans HV2.o.os,hb3.tape.trans HV2.o.tape,hb3.output.trans HV2.o.output,Nat.le_trans HV2.o.size hb3.size,fun k' h1 h2=>(hb3.block k' h1).trans (HV2.o.block k' h1 h2)⟩
    have HR3:Hid (BB w3 b v l m d fo):=HR2.o.kq hb3 hbw HXL.o
    obtain⟨vo,vc,hvv⟩:=ax hown
    rw[hvv]at HO3 |-
    clear hown hb3 hvv
    go_wp2
    go_roundw
    case rel=>exact⟨m,_,L++M,HPn.o,by rw[List.length_append, <-HN.o, <-HMM.o];exact HO3.o,HR3.o,HV3.o⟩
    case measure=>rw[HR3.o.tX,hAt.o];have:=HKM.o;have:=HR3.o.at';have:=HR3.o.small;omega
   ·have HV2:=I (HV1.o.trans hm2)
    have HE:Hid (R=.error (z,a)):=HRR.o.trans (Ay HP.o hkl HPE.o hR2)
    clear hR2 hm2 HX HV1 HO1
    simp only[aw]
    go_wp2
    exact⟨rfl,.inr ⟨z,a,HE.o,rfl,HV2.o⟩⟩
  |true=>
   have HE0:=I (HRR.o.trans (Gp (Bo HP.o hkl hpe)))
   go_wp2_with fail
   refine(qp first HR.o hpe).mono ?_
   rintro e w1 ⟨rfl,hr1,hb1⟩
   have HV1:=I (HV.o.trans (Mv.ae hb1))
   have HO1:=I (cp HO.o hb1)
   have HR1:=I hr1
   obtain⟨c0,c1,c2,c3,f1⟩:=hr1.cells
   clear hb1 hpe HRR HI hr1 c0 c2
   by_cases hki:k=i
   ·have HE:Hid (R=.error (1,(k:Int))):=HE0.o.trans (if_pos hki)
    subst hki
    have HG:=I (aO 1 (k:Int) w1)
    simp only[aw]at HG
    clear HE0
    go_wp2_with fail
    refine HG.o.mono ?_
    rintro e w2 ⟨rfl,rfl⟩
    go_wp2
    exact⟨rfl,.inr ⟨1,_,HE.o,rfl,HV1.o⟩⟩
   ·have HE1:=I (HE0.o.trans (if_neg hki))
    have q1:((k:Int)==(i:Int))=false:=by simp;omega
    have q2:¬(k:Int)=(i:Int):=by omega
    have HKI:Hid (i<k):=by show _<_;omega
    have HJ:=I (nz w.heap.size _ L w1 (by have:=HN.o;omega) HP.o.ok (by rw[<- HN.o];exact HO1.o) HV1.o.size)
    clear HE0 hki
    go_wp2_with fail
    refine HJ.o.mono ?_
    rintro e w2 ⟨v2,O,rfl,ho2,hs2,hl2,hb2⟩
    have HS2:=I (GQ HP.o.is hs2)
    have HRd2:Hid (OR w2 w.heap.size v2 O):=ho2
    have HV2:Hid (Mv b w w2):=⟨hb2.os.trans HV1.o.os,hb2.tape.trans HV1.o.tape,hb2.output.trans HV1.o.output,Nat.le_trans HV1.o.size hb2.size,fun k' h1 h2=>(hb2.block k' h1).trans (HV1.o.block k' h1 h2)⟩
    have HR2:Hid (BB w2 b v l k d fo):=HR1.o.kq hb2 hbw HXL.o
    obtain⟨c0,c1',c2,c3',f1'⟩:=HR2.o.cells
    obtain⟨oo,oc,hv2⟩:=ax ho2
    obtain⟨on,hon⟩:∃on,on=O.length:=⟨_,rfl⟩
    rw[<- hon]at hv2
    rw[hv2]at HRd2 |-
    clear HJ ho2 hs2 hl2 hb2 hv2 hon c0 c1 c2 c3 c1' f1 f1' HR1 HV1 HO1
    cases fo with
    |false=>
     have HE:Hid (R=.ok (acc,k)):=HE1.o.trans (if_neg (by simp))
     have HF:=I (dQ.oN (i:=i) HE.o HRd2.o HS2.o HR2.o HKI.o HV2.o)
     clear HE1
     go_wp2
     go_ret
     exact HF.o
    |true=>
     have HE:Hid (R=match mY (par d true) acc with| .error e=>.error e| .ok g=>.ok (g,k)):=HE1.o.trans (if_pos rfl)
     have HX:=I (xz _ O w2 HR2.o.Bl (Nat.lt_trans HR2.o.pos HR2.o.lt) HRd2.o.reads)
     clear HE1
     go_wp2_with fail
     refine HX.o.mono ?_
     rintro e w3 ⟨v3,err,O3,rfl,hr3,hm3,hb3⟩
     have HB3:=I (Mv.then HV2.o hb3)
     have HR3:=I (HR2.o.ar hb3)
     obtain⟨ao3,cc3,hv3⟩:=ax hr3
     have HRd3:Hid (OR w3 w.heap.size v3 O3):=eU hr3 HV2.o.size
     obtain⟨n3,hn3⟩:∃n3,n3=O3.length:=⟨_,rfl⟩
     rw[<- hn3]at hv3
     rw[hv3]at HRd3 |-
     rcases u7 (d:=d) (fo:=true) HS2.o hm3 with⟨h1,h2⟩|⟨h1,h2,h3⟩
     ·have HE2:Hid (R=.error (2,0)):=HE.o.trans (by rw[h1])
      rw[h2]
      have HM:=I (lk ao3 n3 cc3 2 (by decide) w3)
      simp only[aw]at HM
      clear h1 h2 hm3 hr3 hv3 hb3 hn3 HX HE HRd3
      go_wp2_with fail
      refine HM.o.mono ?_
      rintro e w4 ⟨rfl,rfl⟩
      go_wp2
      exact⟨rfl,.inr ⟨2,0,HE2.o,rfl,HB3.o⟩⟩
     ·have HE2:Hid (R=.ok (ez acc,k)):=HE.o.trans (by rw[h1])
      rw[h2]
      have HM:=I (lr ao3 n3 cc3 w3)
      have HF:=I (dQ.oN (i:=i) HE2.o HRd3.o h3 HR3.o HKI.o HB3.o)
      clear h1 h2 hm3 hr3 hv3 hb3 hn3 HX HE h3 HRd3
      go_wp2_with fail
      refine HM.o.mono ?_
      rintro e w4 ⟨rfl,rfl⟩
      go_wp2
      go_ret
      exact HF.o
end Go.Proofs.YtklbbbldalmnbaaGreatDoor.Br
