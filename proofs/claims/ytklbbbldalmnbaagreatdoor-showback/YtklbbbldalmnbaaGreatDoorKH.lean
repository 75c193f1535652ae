import Derived.Test.YtklbbbldalmnbaaGreatDoorKG
import Derived.Maps.Keyed
set_option maxHeartbeats 16000000
set_option linter.unusedVariables false
open Go.Proofs.Tryz
namespace Go.Proofs.YtklbbbldalmnbaaGreatDoor.TK
open Go.RowKit
theorem jK(n:ByteArray)(g:Bool)(w:World):Calls prog 117 #[.agg #[.string n,.bool g]] w fun e w'=>e=.returned (aZ (dS (n,g)))/\Below w.heap.size w w':=by
 go_enter func117,ntmps117
 go_wp21
 go_wp21
 exact aK (N:=w.heap.size+1) (t:=dS (n,g)) rfl rfl (bp _ _ (by simp)) ⟨rfl,((J _ _).alloc (U _) _).alloc (by simp) _⟩
theorem xm(p:Int)(w:World):Calls prog 122 #[.int .i64 p] w fun e w'=>(∃q,iA p=.ok q/\e=.returned (.int .i64 q)/\w=w')\/(iA p=.error 1/\e=bK 1/\w=w'):=by
 by_cases hp110:p=110
 ·subst hp110
  go_enter func122,ntmps122
  go_wp2
  go_ret
  exact .inl ⟨10,by simp[iA],rfl,rfl⟩
 by_cases hp116:p=116
 ·subst hp116
  go_enter func122,ntmps122
  go_wp2
  go_ret
  exact .inl ⟨9,by simp[iA],rfl,rfl⟩
 by_cases hp114:p=114
 ·subst hp114
  go_enter func122,ntmps122
  go_wp2
  go_ret
  exact .inl ⟨13,by simp[iA],rfl,rfl⟩
 by_cases hp102:p=102
 ·subst hp102
  go_enter func122,ntmps122
  go_wp2
  go_ret
  exact .inl ⟨12,by simp[iA],rfl,rfl⟩
 by_cases hp118:p=118
 ·subst hp118
  go_enter func122,ntmps122
  go_wp2
  go_ret
  exact .inl ⟨11,by simp[iA],rfl,rfl⟩
 by_cases hp97:p=97
 ·subst hp97
  go_enter func122,ntmps122
  go_wp2
  go_ret
  exact .inl ⟨7,by simp[iA],rfl,rfl⟩
 by_cases hp101:p=101
 ·subst hp101
  go_enter func122,ntmps122
  go_wp2
  go_ret
  exact .inl ⟨27,by simp[iA],rfl,rfl⟩
 have hq110:(p==110)=false:=by simpa using hp110
 have hq116:(p==116)=false:=by simpa using hp116
 have hq114:(p==114)=false:=by simpa using hp114
 have hq102:(p==102)=false:=by simpa using hp102
 have hq118:(p==118)=false:=by simpa using hp118
 have hq97:(p==97)=false:=by simpa using hp97
 have hq101:(p==101)=false:=by simpa using hp101
 have HL:=I (mz p w)
 cases hl:tC p with
 |true=>
  rw[hl]at HL
  have hE:Hid (iA p=.error 1):=by show _=_;unfold iA;simp[hp110,hp116,hp114,hp102,hp118,hp97,hp101,hl]
  clear hl
  go_enter func122,ntmps122
  go_wp2_with fail
  refine HL.o.mono ?_
  rintro e w' ⟨rfl,rfl⟩
  go_wp2
  exact⟨rfl,.inr ⟨hE.o,rfl,rfl⟩⟩
 |false=>
  rw[hl]at HL
  by_cases hp48:p=48
  ·subst hp48
   have hE:Hid (iA 48=.error 1):=by show _=_;unfold iA;simp
   clear hl
   go_enter func122,ntmps122
   go_wp2_with fail
   refine HL.o.mono ?_
   rintro e w' ⟨rfl,rfl⟩
   go_wp2
   exact⟨rfl,.inr ⟨hE.o,rfl,rfl⟩⟩
  ·have hq48:(p==48)=false:=by simpa using hp48
   have hE:Hid (iA p=.ok p):=by show _=_;unfold iA;simp[hp110,hp116,hp114,hp102,hp118,hp97,hp101,hl,hp48]
   clear hl
   go_enter func122,ntmps122
   go_wp2_with fail
   refine HL.o.mono ?_
   rintro e w' ⟨rfl,rfl⟩
   go_wp2
   go_ret
   exact .inl ⟨p,hE.o,rfl,rfl⟩
theorem yD{b:Nat}{x:Addr}{c:Nat}{l:List Int}{i:Nat}{d:Int}{least an k:Nat}{n:Int}(w:World)(h:RB w b x c l i d)(hm:an<=6)(hl:least<=6)(he:cL 16 an l i=(n,k))(hk:least<=k):
  Calls prog 119 #[.pointer (some ⟨b,0,none⟩),.int .i64 least,.int .i64 an] w fun e w'=>e=.returned (.int .i64 n)/\RB w' b x c l (i+k) d/\Mv b w w':=by
 have:=FR least an w h hm hl (by rw[he];exact hk)
 rw[he]at this
 exact this
theorem tA{b:Nat}{x:Addr}{c:Nat}{l:List Int}{i:Nat}{d:Int}{least an k:Nat}{n:Int}(w:World)(h:RB w b x c l i d)(hm:an<=6)(hl:least<=6)(he:cL 16 an l i=(n,k))(hk:k<least):
  Calls prog 119 #[.pointer (some ⟨b,0,none⟩),.int .i64 least,.int .i64 an] w fun e w'=>e=bK 1/\Mv b w w':=
 IL least an w h hm hl (by rw[he];exact hk)
theorem tW{b:Nat}{x:Addr}{c:Nat}{l:List Int}{i:Nat}{d:Int}(w:World)(h:RB w b x c l i d):Calls prog 118 #[.pointer (some ⟨b,0,none⟩)] w fun e w'=>mV b x c l d w (fC l i) e w':=by
 have hlt:=h.lt
 have hxw:=h.xw
 have hat:=h.at'
 have hw0:=h.alloc (aq {})
 cases hs:bk l i [123]with
 |false=>
  have HS:=I (iR _ hw0 123 hs)
  obtain⟨n,k,he,hr0⟩:=eG 16 2 l i hat (Or.inr rfl)
  by_cases hk:k<1
  ·have HX:=I (fun w1 (h1:RB w1 b x c l i d)=>tA (least:=1) w1 h1 (by omega) (by omega) he hk)
   have hE:Hid (fC l i=.error 1):=by show _=_;unfold fC;rw[if_pos hs];simp only[he];rw[if_pos hk]
   clear hs h hw0 he hr0 hk
   go_enter func118,ntmps118
   go_wp2_with fail
   simp only[aq,World.size_alloc]at HS
   refine HS.o.mono ?_
   rintro e w1 ⟨rfl,hr1,hm1⟩
   go_wp2_with fail
   refine(HX.o w1 hr1).mono ?_
   rintro e w2 ⟨rfl,hm2⟩
   have hm:=hm1.trans hm2
   have HMM:=I hm
   clear hm HS HX hr1 hm1 hm2
   simp only[bK]
   go_wp2
   exact⟨rfl,.inr ⟨1,hE.o,rfl,((Mv.refl b w).alloc _).trans HMM.o⟩⟩
  ·have HX:=I (fun w1 (h1:RB w1 b x c l i d)=>yD (least:=1) w1 h1 (by omega) (by omega) he (by omega))
   have hE:Hid (fC l i=.ok (aM n,i+k)):=by show _=_;unfold fC;rw[if_pos hs];simp only[he];rw[if_neg hk]
   clear hs h hw0 he hr0 hk
   go_enter func118,ntmps118
   go_wp2_with fail
   simp only[aq,World.size_alloc]at HS
   refine HS.o.mono ?_
   rintro e w1 ⟨rfl,hr1,hm1⟩
   go_wp2_with fail
   refine(HX.o w1 hr1).mono ?_
   rintro e w2 ⟨rfl,hr2,hm2⟩
   go_wp2_with fail
   refine(dM n w2).mono ?_
   rintro e w3 ⟨rfl,hb3⟩
   have hr:=hr2.ar hb3
   have hm:=(hm1.trans hm2).trans (Mv.ae hb3)
   have hN:w3.heap[w.heap.size]? =some (aq {}):=hm.aC (aj _ _) (by omega)
   obtain⟨m0,m1,m2,m3,m4,m5,m6,m7⟩:=ai hN
   have fr0:=au hN
   have hq0:w.heap.size<w3.heap.size:=lt_of_block hN
   have hq1:¬w.heap.size=w3.heap.size:=by omega
   have hq2:¬w3.heap.size=w.heap.size:=by omega
   have HRR:=I hr
   have HMM:=I hm
   clear hr hm HS HX hr1 hm1 hr2 hm2 hb3
   simp only[aZ,aM]
   go_wp21
   go_wp21
   go_wp21
   exact aK (N:=w.heap.size) rfl rfl (aI hN (aM n)) (.inl ⟨(aM n),(i+k),hE.o,rfl,HRR.o.tok (by omega) (by omega) _ _ _ _ _ _ _ _,Mv.tok (((Mv.refl b w).alloc _).trans HMM.o) (U _) _ _ _ _ _ _ _ _⟩)
 |true=>
  have HS:=I (gB _ hw0 123 hs)
  have hin:=fF hs (by simp)
  obtain⟨n,k,he,hr0⟩:=eG 16 6 l (i+1) (by simpa using hin) (Or.inr rfl)
  have hnb:=fW hr0 (by omega)
  by_cases hk:k<1
  ·have HX:=I (fun w1 (h1:RB w1 b x c l (i+1) d)=>tA (least:=1) w1 h1 (by omega) (by omega) he hk)
   have hE:Hid (fC l i=.error 1):=by show _=_;unfold fC;rw[if_neg (by rw[hs];simp)];simp only[he];rw[if_pos hk]
   clear hs h hw0 he hr0 hk hin
   go_enter func118,ntmps118
   go_wp2_with fail
   simp only[aq,World.size_alloc]at HS
   refine HS.o.mono ?_
   rintro e w1 ⟨rfl,hr1,hm1⟩
   go_wp2_with fail
   refine(HX.o w1 hr1).mono ?_
   rintro e w2 ⟨rfl,hm2⟩
   have hm:=hm1.trans hm2
   have HMM:=I hm
   clear hm HS HX hr1 hm1 hm2
   simp only[bK]
   go_wp2
   exact⟨rfl,.inr ⟨1,hE.o,rfl,((Mv.refl b w).alloc _).trans HMM.o⟩⟩
  ·have HX:=I (fun w1 (h1:RB w1 b x c l (i+1) d)=>yD (least:=1) w1 h1 (by omega) (by omega) he (by omega))
   have hE0:Hid (fC l i=(if bk l (i+1+k) [125]=false then .error 1 else if n>1114111 then .error 3 else .ok (aM n,i+1+k+1))):=by show _=_;unfold fC;rw[if_neg (by rw[hs];simp)];simp only[he];rw[if_neg hk]
   clear hs h hw0 he hr0 hk hin
   cases hs2:bk l (i+1+k) [125]with
   |false=>
    have HM2:=I (fun w1 (h1:RB w1 b x c l (i+1+k) d)=>cX 125 w1 h1 hs2)
    have hE:Hid (fC l i=.error 1):=by show _=_;rw[hE0.o,if_pos hs2]
    clear hs2 hE0
    go_enter func118,ntmps118
    go_wp2_with fail
    simp only[aq,World.size_alloc]at HS
    refine HS.o.mono ?_
    rintro e w1 ⟨rfl,hr1,hm1⟩
    go_wp2_with fail
    refine(HX.o w1 hr1).mono ?_
    rintro e w2 ⟨rfl,hr2,hm2⟩
    go_wp2_with fail
    refine(HM2.o w2 hr2).mono ?_
    rintro e w3 ⟨rfl,hm3⟩
    have hm:=(hm1.trans hm2).trans hm3
    have HMM:=I hm
    clear hm HS HX HM2 hr1 hm1 hr2 hm2 hm3
    simp only[bK]
    go_wp2
    exact⟨rfl,.inr ⟨1,hE.o,rfl,((Mv.refl b w).alloc _).trans HMM.o⟩⟩
   |true=>
    have HM2:=I (fun w1 (h1:RB w1 b x c l (i+1+k) d)=>bQ 125 w1 h1 hs2)
    by_cases hbig:n>1114111
    ·have hE:Hid (fC l i=.error 3):=by show _=_;rw[hE0.o,if_neg (by rw[hs2];simp),if_pos hbig]
     have hbig':1114111<n:=hbig
     clear hs2 hE0 hbig
     go_enter func118,ntmps118
     go_wp2_with fail
     simp only[aq,World.size_alloc]at HS
     refine HS.o.mono ?_
     rintro e w1 ⟨rfl,hr1,hm1⟩
     go_wp2_with fail
     refine(HX.o w1 hr1).mono ?_
     rintro e w2 ⟨rfl,hr2,hm2⟩
     go_wp2_with fail
     refine(HM2.o w2 hr2).mono ?_
     rintro e w3 ⟨rfl,hr3,hm3⟩
     have hm:=(hm1.trans hm2).trans hm3
     have HMM:=I hm
     clear hm HS HX HM2 hr1 hm1 hr2 hm2 hr3 hm3
     simp only
     go_wp2
     exact⟨rfl,.inr ⟨3,hE.o,rfl,((Mv.refl b w).alloc _).trans HMM.o⟩⟩
    ·have hE:Hid (fC l i=.ok (aM n,i+1+k+1)):=by show _=_;rw[hE0.o,if_neg (by rw[hs2];simp),if_neg hbig]
     have hbig':¬1114111<n:=hbig
     clear hs2 hE0 hbig
     go_enter func118,ntmps118
     go_wp2_with fail
     simp only[aq,World.size_alloc]at HS
     refine HS.o.mono ?_
     rintro e w1 ⟨rfl,hr1,hm1⟩
     go_wp2_with fail
     refine(HX.o w1 hr1).mono ?_
     rintro e w2 ⟨rfl,hr2,hm2⟩
     go_wp2_with fail
     refine(HM2.o w2 hr2).mono ?_
     rintro e w3 ⟨rfl,hr3,hm3⟩
     go_wp2_with fail
     refine(dM n w3).mono ?_
     rintro e w4 ⟨rfl,hb4⟩
     have hr:=hr3.ar hb4
     have hm:=((hm1.trans hm2).trans hm3).trans (Mv.ae hb4)
     have hN:w4.heap[w.heap.size]? =some (aq {}):=hm.aC (aj _ _) (by omega)
     obtain⟨m0,m1,m2,m3,m4,m5,m6,m7⟩:=ai hN
     have fr0:=au hN
     have hq0:w.heap.size<w4.heap.size:=lt_of_block hN
     have hq1:¬w.heap.size=w4.heap.size:=by omega
     have hq2:¬w4.heap.size=w.heap.size:=by omega
     have HRR:=I hr
     have HMM:=I hm
     clear hr hm HS HX HM2 hr1 hm1 hr2 hm2 hr3 hm3 hb4
     simp only[aZ,aM]
     go_wp21
     go_wp21
     go_wp21
     exact aK (N:=w.heap.size) rfl rfl (aI hN (aM n)) (.inl ⟨(aM n),(i+1+k+1),hE.o,rfl,HRR.o.tok (by omega) (by omega) _ _ _ _ _ _ _ _,Mv.tok (((Mv.refl b w).alloc _).trans HMM.o) (U _) _ _ _ _ _ _ _ _⟩)
theorem oM{b:Nat}{x:Addr}{c:Nat}{l:List Int}{i:Nat}{d:Int}(n:Int)(w:World)(h:RB w b x c l i d)(n0:0<=n)(n1:n<=9):Calls prog 121 #[.pointer (some ⟨b,0,none⟩),.int .i64 n] w fun e w'=>mV b x c l d w (.ok (jB l i n)) e w':=by
 have hlt:=h.lt
 have hxw:=h.xw
 have hat:=h.at'
 have hw0:=h.alloc (aq {})
 obtain⟨m,k,he,hr0⟩:=eG 10 1 l i hat (Or.inl rfl)
 have HD:=I (lg _ hw0 (Or.inl rfl) (by omega) he)
 have hk1:=hr0.k1
 have hm0:=hr0.n0
 have hmb:=fW hr0 (by omega)
 by_cases hk:k=1
 ·subst hk
  have hE:Hid ((.ok (jB l i n):RT)=.ok (aP (n*10+m),i+1)):=by show _=_;unfold jB;simp[he]
  clear h hw0 he hr0
  go_enter func121,ntmps121
  go_wp2_with fail
  simp only[aq]at HD
  refine HD.o.mono ?_
  rintro e w1 ⟨rfl,hr1,hm1⟩
  go_wp2_with fail
  refine(eH (n*10+m) w1).mono ?_
  rintro e w2 ⟨rfl,hb2⟩
  have hr:=hr1.ar hb2
  have hm:=hm1.trans (Mv.ae hb2)
  have hN:w2.heap[w.heap.size]? =some (aq {}):=hm.aC (aj _ _) (by omega)
  obtain⟨m0,m1,m2,m3,m4,m5,m6,m7⟩:=ai hN
  have fr0:=au hN
  have hq0:w.heap.size<w2.heap.size:=lt_of_block hN
  have hq1:¬w.heap.size=w2.heap.size:=by omega
  have hq2:¬w2.heap.size=w.heap.size:=by omega
  have HRR:=I hr
  have HMM:=I hm
  clear hr hm HD hr1 hm1 hb2
  simp only[aZ,aP]
  go_wp21
  go_wp21
  go_wp21
  exact aK (N:=w.heap.size) rfl rfl (aI hN (aP (n*10+m))) (.inl ⟨(aP (n*10+m)),(i+1),hE.o,rfl,HRR.o.tok (by omega) (by omega) _ _ _ _ _ _ _ _,Mv.tok (((Mv.refl b w).alloc _).trans HMM.o) (U _) _ _ _ _ _ _ _ _⟩)
 ·obtain rfl:k=0:=by omega
  have hE:Hid ((.ok (jB l i n):RT)=.ok (aP n,i)):=by show _=_;unfold jB;simp only[he];rw[if_neg (by omega)]
  clear h hw0 he hr0 hk
  go_enter func121,ntmps121
  go_wp2_with fail
  simp only[aq]at HD
  refine HD.o.mono ?_
  rintro e w1 ⟨rfl,hr1,hm1⟩
  go_wp2_with fail
  refine(eH n w1).mono ?_
  rintro e w2 ⟨rfl,hb2⟩
  have hr:=hr1.ar hb2
  have hm:=hm1.trans (Mv.ae hb2)
  have hN:w2.heap[w.heap.size]? =some (aq {}):=hm.aC (aj _ _) (by omega)
  obtain⟨m0,m1,m2,m3,m4,m5,m6,m7⟩:=ai hN
  have fr0:=au hN
  have hq0:w.heap.size<w2.heap.size:=lt_of_block hN
  have hq1:¬w.heap.size=w2.heap.size:=by omega
  have hq2:¬w2.heap.size=w.heap.size:=by omega
  have HRR:=I hr
  have HMM:=I hm
  clear hr hm HD hr1 hm1 hb2
  simp only[aZ,aP]
  go_wp21
  go_wp21
  go_wp21
  exact aK (N:=w.heap.size) rfl rfl (aI hN (aP n)) (.inl ⟨(aP n),i,hE.o,rfl,HRR.o.tok (by omega) (by omega) _ _ _ _ _ _ _ _,Mv.tok (((Mv.refl b w).alloc _).trans HMM.o) (U _) _ _ _ _ _ _ _ _⟩)
theorem DG{l:List Int}(h:l≠[]):(bE l).toList.isEmpty=false:=by
 rw[ByteArray.toList_eq]
 unfold bE
 cases l with
 |nil=>exact absurd rfl h
 |cons a t=>rfl
theorem G5{l:List Int}{i:Nat}(hs:bk l i [60]=true){back:Bool}(hb:bk l (i+1) [45]=back){j:Nat}(hj:j=if back then i+2 else i+1){n:Int}{k:Nat}(he:cL 10 3 l j=(n,k)):
  eM l i=(if 0<k then(if bk l (j+k) [62]=false then .error 1 else if n=0 then .error 3 else .ok (aP (if back then -n else n),j+k+1))else if back then .error 1 else if bL l j=[]then .error 1 else if bk l (j+(bL l j).length) [62]=false then .error 1 else .ok ({ kind:=10,text:=bE (bL l j) },j+(bL l j).length+1)):=by
 unfold eM
 rw[if_neg (by rw[hs];simp)]
 simp only[hb, <-hj,he]
theorem wG{b:Nat}{x:Addr}{c:Nat}{l:List Int}{i:Nat}{d:Int}(w:World)(h:RB w b x c l i d):Calls prog 120 #[.pointer (some ⟨b,0,none⟩)] w fun e w'=>mV b x c l d w (eM l i) e w':=by
 have hlt:=h.lt
 have hxw:=h.xw
 have hat:=h.at'
 have hw0:=h.alloc (aq {})
 cases hs:bk l i [60]with
 |false=>
  have HS:=I (cX 60 _ hw0 hs)
  have hE:Hid (eM l i=.error 1):=by show _=_;unfold eM;rw[if_pos hs]
  clear hs h hw0
  go_enter func120,ntmps120
  go_wp2_with fail
  simp only[aq]at HS
  refine HS.o.mono ?_
  rintro e w1 ⟨rfl,hm⟩
  have HMM:=I hm
  clear hm HS
  simp only[bK]
  go_wp2
  exact⟨rfl,.inr ⟨1,hE.o,rfl,((Mv.refl b w).alloc _).trans HMM.o⟩⟩
 |true=>
  have HS:=I (bQ 60 _ hw0 hs)
  have hin:=fF hs (by simp)
  obtain⟨back,hbk⟩:∃back,bk l (i+1) [45]=back:=⟨_,rfl⟩
  obtain⟨j,hj⟩:∃j,j=(if back then i+2 else i+1):=⟨_,rfl⟩
  have hjl:j<=l.length:=by
   rw[hj]
   split
   ·rename_i hb;rw[hb]at hbk;have:=fF hbk (by simp);simp at this;omega
   ·simpa using hin
  obtain⟨n,k,he,hr0⟩:=eG 10 3 l j hjl (Or.inl rfl)
  have HA:=I (G5 hs hbk hj he)
  have HS2:Hid (∀w1,RB w1 b x c l (i+1) d->Calls prog 107 #[.pointer (some ⟨b,0,none⟩),.slice (some ⟨w1.heap.size,0,none⟩) 1 1] (w1.alloc (.cells #[.int .i64 45] 3)) fun e w'=>e=.returned (.bool back)/\RB w' b x c l j d/\Mv b w1 w'):=fun w1 h1=>by
   have:=lF w1 h1 45
   rw[hbk]at this
   rw[hj]
   exact this
  have HD:=I (fun w1 (h1:RB w1 b x c l j d)=>lg w1 h1 (Or.inl rfl) (show 3<=6 by omega) he)
  have hnb:=fW hr0 (by omega)
  have hn0:=hr0.n0
  have hk1:=hr0.k1
  clear hs h hw0 he hr0 hbk hj hin
  by_cases hkp:0<k
  ·have hki:(0:Int)<(k:Int):=by omega
   cases back with
   |true=>
    go_enter func120,ntmps120
    go_wp2_with fail
    simp only[aq]at HS
    refine HS.o.mono ?_
    rintro e w1 ⟨rfl,hr1,hm1⟩
    go_wp2_with fail
    refine(eH 0 w1).mono ?_
    rintro e w2 ⟨rfl,hb2⟩
    have hr2:=hr1.ar hb2
    have hm2:=hm1.trans (Mv.ae hb2)
    have hz2:w.heap.size+1<=w2.heap.size:=by have:=hm2.size;simpa using this
    have hlt2:=hr2.lt
    have hxw2:=hr2.xw
    simp only[aZ,aP]
    have HS3:=I (HS2.o _ (hr2.alloc (aq (aP 0))))
    simp only[aq,aP,World.size_alloc]at HS3
    clear hr1 hm1 hb2 HS HS2
    go_wp2_with fail
    refine HS3.o.mono ?_
    rintro e w3 ⟨rfl,hr3,hm3⟩
    go_wp2_with fail
    refine(HD.o w3 hr3).mono ?_
    rintro e w4 ⟨rfl,hr4,hm4⟩
    have hm24:=((Mv.refl b w2).alloc (aq (aP 0))).trans (hm3.trans hm4)
    have hT:w4.heap[w2.heap.size]? =some (aq (aP 0)):=(hm3.trans hm4).aC (aj _ _) (by omega)
    have hmA:=hm2.trans hm24
    have frT:=au hT
    obtain⟨n0,n1,n2,n3,n4,n5,n6,n7⟩:=ai hT
    simp only[aP]at n0 n1 n2 n3 n4 n5 n6 n7
    clear HS3 HD hr2 hm2 hr3 hm3 hm4 hm24
    have hrX:=hr4.other (p:=⟨w2.heap.size,1,none⟩) (by simp;omega) (by simp;omega) (.int .i64 (-n))
    have hmX:=hmA.fw (p:=⟨w2.heap.size,1,none⟩) (by simp;omega) (.int .i64 (-n))
    have HTX:Hid ((w4.setCell ⟨w2.heap.size,1,none⟩ (.int .i64 (-n))).heap[w2.heap.size]? =some (aq (aP (-n)))):=by
     show _=_
     rw[bd hT]
     simp[aq,aP]
    clear hr4 hmA
    cases hs3:bk l (j+k) [62]with
    |false=>
     have hE:Hid (eM l i=.error 1):=by show _=_;rw[HA.o,if_pos hkp,if_pos hs3]
     have HM5:=I (cX 62 _ hrX hs3)
     clear hs3 hrX
     simp only[]
     go_wp2_with fail
     refine HM5.o.mono ?_
     rintro e w9 ⟨rfl,hm9⟩
     have hm:=hmX.trans hm9
     have HMM:=I hm
     clear hm hmX hm9 HM5
     simp only[bK]
     go_wp2
     exact⟨rfl,.inr ⟨1,hE.o,rfl,((Mv.refl b w).alloc _).trans HMM.o⟩⟩
    |true=>
     have HM5:=I (bQ 62 _ hrX hs3)
     by_cases hz:n=0
     ·subst hz
      have hE:Hid (eM l i=.error 3):=by show _=_;rw[HA.o,if_pos hkp,if_neg (by rw[hs3];simp),if_pos rfl]
      clear hs3 hrX
      simp only[]
      go_wp2_with fail
      refine HM5.o.mono ?_
      rintro e w9 ⟨rfl,hr,hm9⟩
      have hm:=hmX.trans hm9
      have hT9:=hm9.aC HTX.o (by omega)
      obtain⟨p0,p1,p2,p3,p4,p5,p6,p7⟩:=ai hT9
      try simp only[aP,Int.neg_zero]at p0 p1 p2 p3 p4 p5 p6 p7
      have HMM:=I hm
      clear hm hr hmX hm9 HM5
      simp only
      go_wp2
      exact⟨rfl,.inr ⟨3,hE.o,rfl,((Mv.refl b w).alloc _).trans HMM.o⟩⟩
     ·have hE:Hid (eM l i=.ok ((aP (-n)),j+k+1)):=by show _=_;rw[HA.o,if_pos hkp,if_neg (by rw[hs3];simp),if_neg hz];rfl
      clear hs3 hrX
      have hzb:((-n)==0)=false:=by simp;omega
      have hzc:¬(-n)=0:=by omega
      simp only[]
      go_wp2_with fail
      refine HM5.o.mono ?_
      rintro e w9 ⟨rfl,hr,hm9⟩
      have hm:=hmX.trans hm9
      have hT9:=hm9.aC HTX.o (by omega)
      obtain⟨p0,p1,p2,p3,p4,p5,p6,p7⟩:=ai hT9
      try simp only[aP]at p0 p1 p2 p3 p4 p5 p6 p7
      have hN:w9.heap[w.heap.size]? =some (aq {}):=hm.aC (aj _ _) (by omega)
      obtain⟨m0,m1,m2,m3,m4,m5,m6,m7⟩:=ai hN
      have fr0:=au hN
      have hq0:w.heap.size<w9.heap.size:=lt_of_block hN
      have hq1:¬w.heap.size=w9.heap.size:=by omega
      have hq2:¬w9.heap.size=w.heap.size:=by omega
      have HRR:=I hr
      have HMM:=I hm
      clear hr hm hmX hm9 HM5
      go_wp21
      go_wp21
      go_wp21
      exact aK (N:=w.heap.size) rfl rfl (aI hN (aP (-n))) (.inl ⟨(aP (-n)),(j+k+1),hE.o,rfl,HRR.o.tok (by omega) (by omega) _ _ _ _ _ _ _ _,Mv.tok (((Mv.refl b w).alloc _).trans HMM.o) (U _) _ _ _ _ _ _ _ _⟩)
   |false=>
    go_enter func120,ntmps120
    go_wp2_with fail
    simp only[aq]at HS
    refine HS.o.mono ?_
    rintro e w1 ⟨rfl,hr1,hm1⟩
    go_wp2_with fail
    refine(eH 0 w1).mono ?_
    rintro e w2 ⟨rfl,hb2⟩
    have hr2:=hr1.ar hb2
    have hm2:=hm1.trans (Mv.ae hb2)
    have hz2:w.heap.size+1<=w2.heap.size:=by have:=hm2.size;simpa using this
    have hlt2:=hr2.lt
    have hxw2:=hr2.xw
    simp only[aZ,aP]
    have HS3:=I (HS2.o _ (hr2.alloc (aq (aP 0))))
    simp only[aq,aP,World.size_alloc]at HS3
    clear hr1 hm1 hb2 HS HS2
    go_wp2_with fail
    refine HS3.o.mono ?_
    rintro e w3 ⟨rfl,hr3,hm3⟩
    go_wp2_with fail
    refine(HD.o w3 hr3).mono ?_
    rintro e w4 ⟨rfl,hr4,hm4⟩
    have hm24:=((Mv.refl b w2).alloc (aq (aP 0))).trans (hm3.trans hm4)
    have hT:w4.heap[w2.heap.size]? =some (aq (aP 0)):=(hm3.trans hm4).aC (aj _ _) (by omega)
    have hmA:=hm2.trans hm24
    have frT:=au hT
    obtain⟨n0,n1,n2,n3,n4,n5,n6,n7⟩:=ai hT
    simp only[aP]at n0 n1 n2 n3 n4 n5 n6 n7
    clear HS3 HD hr2 hm2 hr3 hm3 hm4 hm24
    have hrX:=hr4.other (p:=⟨w2.heap.size,1,none⟩) (by simp;omega) (by simp;omega) (.int .i64 (n))
    have hmX:=hmA.fw (p:=⟨w2.heap.size,1,none⟩) (by simp;omega) (.int .i64 (n))
    have HTX:Hid ((w4.setCell ⟨w2.heap.size,1,none⟩ (.int .i64 (n))).heap[w2.heap.size]? =some (aq (aP (n)))):=by
     show _=_
     rw[bd hT]
     simp[aq,aP]
    clear hr4 hmA
    cases hs3:bk l (j+k) [62]with
    |false=>
     have hE:Hid (eM l i=.error 1):=by show _=_;rw[HA.o,if_pos hkp,if_pos hs3]
     have HM5:=I (cX 62 _ hrX hs3)
     clear hs3 hrX
     simp only[]
     go_wp2_with fail
     refine HM5.o.mono ?_
     rintro e w9 ⟨rfl,hm9⟩
     have hm:=hmX.trans hm9
     have HMM:=I hm
     clear hm hmX hm9 HM5
     simp only[bK]
     go_wp2
     exact⟨rfl,.inr ⟨1,hE.o,rfl,((Mv.refl b w).alloc _).trans HMM.o⟩⟩
    |true=>
     have HM5:=I (bQ 62 _ hrX hs3)
     by_cases hz:n=0
     ·subst hz
      have hE:Hid (eM l i=.error 3):=by show _=_;rw[HA.o,if_pos hkp,if_neg (by rw[hs3];simp),if_pos rfl]
      clear hs3 hrX
      simp only[]
      go_wp2_with fail
      refine HM5.o.mono ?_
      rintro e w9 ⟨rfl,hr,hm9⟩
      have hm:=hmX.trans hm9
      have hT9:=hm9.aC HTX.o (by omega)
      obtain⟨p0,p1,p2,p3,p4,p5,p6,p7⟩:=ai hT9
      try simp only[aP]at p0 p1 p2 p3 p4 p5 p6 p7
      have HMM:=I hm
      clear hm hr hmX hm9 HM5
      simp only
      go_wp2
      exact⟨rfl,.inr ⟨3,hE.o,rfl,((Mv.refl b w).alloc _).trans HMM.o⟩⟩
     ·have hE:Hid (eM l i=.ok ((aP (n)),j+k+1)):=by show _=_;rw[HA.o,if_pos hkp,if_neg (by rw[hs3];simp),if_neg hz];rfl
      clear hs3 hrX
      have hzb:((n)==0)=false:=by simp;omega
      have hzc:¬(n)=0:=by omega
      simp only[]
      go_wp2_with fail
      refine HM5.o.mono ?_
      rintro e w9 ⟨rfl,hr,hm9⟩
      have hm:=hmX.trans hm9
      have hT9:=hm9.aC HTX.o (by omega)
      obtain⟨p0,p1,p2,p3,p4,p5,p6,p7⟩:=ai hT9
      try simp only[aP]at p0 p1 p2 p3 p4 p5 p6 p7
      have hN:w9.heap[w.heap.size]? =some (aq {}):=hm.aC (aj _ _) (by omega)
      obtain⟨m0,m1,m2,m3,m4,m5,m6,m7⟩:=ai hN
      have fr0:=au hN
      have hq0:w.heap.size<w9.heap.size:=lt_of_block hN
      have hq1:¬w.heap.size=w9.heap.size:=by omega
      have hq2:¬w9.heap.size=w.heap.size:=by omega
      have HRR:=I hr
      have HMM:=I hm
      clear hr hm hmX hm9 HM5
      go_wp21
      go_wp21
      go_wp21
      exact aK (N:=w.heap.size) rfl rfl (aI hN (aP (n))) (.inl ⟨(aP (n)),(j+k+1),hE.o,rfl,HRR.o.tok (by omega) (by omega) _ _ _ _ _ _ _ _,Mv.tok (((Mv.refl b w).alloc _).trans HMM.o) (U _) _ _ _ _ _ _ _ _⟩)
  ·obtain rfl:k=0:=by omega
   cases back with
   |true=>
    have hE:Hid (eM l i=.error 1):=by show _=_;rw[HA.o,if_neg hkp,if_pos rfl]
    go_enter func120,ntmps120
    go_wp2_with fail
    simp only[aq]at HS
    refine HS.o.mono ?_
    rintro e w1 ⟨rfl,hr1,hm1⟩
    go_wp2_with fail
    refine(eH 0 w1).mono ?_
    rintro e w2 ⟨rfl,hb2⟩
    have hr2:=hr1.ar hb2
    have hm2:=hm1.trans (Mv.ae hb2)
    have hz2:w.heap.size+1<=w2.heap.size:=by have:=hm2.size;simpa using this
    have hlt2:=hr2.lt
    have hxw2:=hr2.xw
    simp only[aZ,aP]
    have HS3:=I (HS2.o _ (hr2.alloc (aq (aP 0))))
    simp only[aq,aP,World.size_alloc]at HS3
    clear hr1 hm1 hb2 HS HS2
    go_wp2_with fail
    refine HS3.o.mono ?_
    rintro e w3 ⟨rfl,hr3,hm3⟩
    go_wp2_with fail
    refine(HD.o w3 hr3).mono ?_
    rintro e w4 ⟨rfl,hr4,hm4⟩
    have hm24:=((Mv.refl b w2).alloc (aq (aP 0))).trans (hm3.trans hm4)
    have hT:w4.heap[w2.heap.size]? =some (aq (aP 0)):=(hm3.trans hm4).aC (aj _ _) (by omega)
    have hmA:=hm2.trans hm24
    have frT:=au hT
    obtain⟨n0,n1,n2,n3,n4,n5,n6,n7⟩:=ai hT
    simp only[aP]at n0 n1 n2 n3 n4 n5 n6 n7
    clear HS3 HD hr2 hm2 hr3 hm3 hm4 hm24
    have hm:=hmA
    have HMM:=I hm
    clear hm hmA hr4
    simp only
    go_wp2
    exact⟨rfl,.inr ⟨1,hE.o,rfl,((Mv.refl b w).alloc _).trans HMM.o⟩⟩
   |false=>
    go_enter func120,ntmps120
    go_wp2_with fail
    simp only[aq]at HS
    refine HS.o.mono ?_
    rintro e w1 ⟨rfl,hr1,hm1⟩
    go_wp2_with fail
    refine(eH 0 w1).mono ?_
    rintro e w2 ⟨rfl,hb2⟩
    have hr2:=hr1.ar hb2
    have hm2:=hm1.trans (Mv.ae hb2)
    have hz2:w.heap.size+1<=w2.heap.size:=by have:=hm2.size;simpa using this
    have hlt2:=hr2.lt
    have hxw2:=hr2.xw
    simp only[aZ,aP]
    have HS3:=I (HS2.o _ (hr2.alloc (aq (aP 0))))
    simp only[aq,aP,World.size_alloc]at HS3
    clear hr1 hm1 hb2 HS HS2
    go_wp2_with fail
    refine HS3.o.mono ?_
    rintro e w3 ⟨rfl,hr3,hm3⟩
    go_wp2_with fail
    refine(HD.o w3 hr3).mono ?_
    rintro e w4 ⟨rfl,hr4,hm4⟩
    have hm24:=((Mv.refl b w2).alloc (aq (aP 0))).trans (hm3.trans hm4)
    have hT:w4.heap[w2.heap.size]? =some (aq (aP 0)):=(hm3.trans hm4).aC (aj _ _) (by omega)
    have hmA:=hm2.trans hm24
    have frT:=au hT
    obtain⟨n0,n1,n2,n3,n4,n5,n6,n7⟩:=ai hT
    simp only[aP]at n0 n1 n2 n3 n4 n5 n6 n7
    clear HS3 HD hr2 hm2 hr3 hm3 hm4 hm24
    have hr4':RB w4 b x c l j d:=hr4
    clear hr4
    go_wp2_with fail
    refine(uO w4 hr4').mono ?_
    rintro e w5 (⟨hnil,rfl,hm5⟩|⟨hnn,rfl,hr5,hm5⟩)
    ·have hm:=hmA.trans hm5
     have hE:Hid (eM l i=.error 1):=by show _=_;rw[HA.o,if_neg hkp,if_neg (by simp),if_pos hnil]
     have HMM:=I hm
     clear hm hmA hm5 hr4' hnil
     simp only[bK]
     go_wp2
     exact⟨rfl,.inr ⟨1,hE.o,rfl,((Mv.refl b w).alloc _).trans HMM.o⟩⟩
    ·have hT5:=hm5.aC hT (by omega)
     have frT5:=au hT5
     obtain⟨q0,q1,q2,q3,q4,q5,q6,q7⟩:=ai hT5
     simp only[aP]at q0 q1 q2 q3 q4 q5 q6 q7
     have hA2:Hid (eM l i=(if bk l (j+(bL l j).length) [62]=false then .error 1 else .ok ({ kind:=10,text:=bE (bL l j) },j+(bL l j).length+1))):=by show _=_;rw[HA.o,if_neg hkp,if_neg (by simp),if_neg hnn]
     have hSe:=DG hnn
     obtain⟨S,hS⟩:∃S,S=bE (bL l j):=⟨_,rfl⟩
     obtain⟨q,hq⟩:∃q,q=j+(bL l j).length:=⟨_,rfl⟩
     rw[<- hS]at hA2 hSe |-
     rw[<- hq]at hA2 hr5
     have hrX:=hr5.other (p:=⟨w2.heap.size,2,none⟩) (by simp;omega) (by simp;omega) (.string S)
     have hmX:=(hmA.trans hm5).fw (p:=⟨w2.heap.size,2,none⟩) (by simp;omega) (.string S)
     have HTX:Hid ((w5.setCell ⟨w2.heap.size,2,none⟩ (.string S)).heap[w2.heap.size]? =some (aq { kind:=10,text:=S })):=by
      show _=_
      rw[bd hT5]
      simp[aq,aP]
     clear hr4' hmA hr5 hm5 hT hT5 frT n0 n1 n2 n3 n4 n5 n6 n7 hS hq hnn HA
     cases hs3:bk l (q) [62]with
     |false=>
      have hE:Hid (eM l i=.error 1):=by show _=_;rw[hA2.o,if_pos hs3]
      have HM5:=I (cX 62 _ hrX hs3)
      clear hs3 hrX
      simp only[]
      go_wp2_with fail
      refine HM5.o.mono ?_
      rintro e w9 ⟨rfl,hm9⟩
      have hm:=hmX.trans hm9
      have HMM:=I hm
      clear hm hmX hm9 HM5
      simp only[bK]
      go_wp2
      exact⟨rfl,.inr ⟨1,hE.o,rfl,((Mv.refl b w).alloc _).trans HMM.o⟩⟩
     |true=>
      have HM5:=I (bQ 62 _ hrX hs3)
      have hE:Hid (eM l i=.ok ({ kind:=10,text:=S },q+1)):=by show _=_;rw[hA2.o,if_neg (by rw[hs3];simp)]
      clear hs3 hrX
      simp only[]
      go_wp2_with fail
      refine HM5.o.mono ?_
      rintro e w9 ⟨rfl,hr,hm9⟩
      have hm:=hmX.trans hm9
      have hT9:=hm9.aC HTX.o (by omega)
      obtain⟨p0,p1,p2,p3,p4,p5,p6,p7⟩:=ai hT9
      try simp only at p0 p1 p2 p3 p4 p5 p6 p7
      have hN:w9.heap[w.heap.size]? =some (aq {}):=hm.aC (aj _ _) (by omega)
      obtain⟨m0,m1,m2,m3,m4,m5,m6,m7⟩:=ai hN
      have fr0:=au hN
      have hq0:w.heap.size<w9.heap.size:=lt_of_block hN
      have hq1:¬w.heap.size=w9.heap.size:=by omega
      have hq2:¬w9.heap.size=w.heap.size:=by omega
      have HRR:=I hr
      have HMM:=I hm
      clear hr hm hmX hm9 HM5
      go_wp21
      go_wp21
      go_wp21
      exact aK (N:=w.heap.size) rfl rfl (aI hN { kind:=10,text:=S }) (.inl ⟨{ kind:=10,text:=S },(q+1),hE.o,rfl,HRR.o.tok (by omega) (by omega) _ _ _ _ _ _ _ _,Mv.tok (((Mv.refl b w).alloc _).trans HMM.o) (U _) _ _ _ _ _ _ _ _⟩)
def gz(n:ByteArray)(g:Bool):Value:=.agg #[.string n,.bool g]
def Bg:Array MapEntry:=#[⟨.int .i64 100,gz ee false,0⟩,⟨.int .i64 68,gz ee true,1⟩,⟨.int .i64 119,gz dK false,2⟩,⟨.int .i64 87,gz dK true,3⟩,⟨.int .i64 115,gz eh false,4⟩,⟨.int .i64 83,gz eh true,5⟩,⟨.int .i64 104,gz dw false,6⟩,⟨.int .i64 72,gz dw true,7⟩]
theorem gE{w:World}{r:Nat}{es:Array MapEntry}{cl:Nat}(hr:w.heap[r]? =some (.map es cl))(k:Int)(v:Value)(hf:Instr.findNow (.int .i64) (.int .i64 k) es.toList 0=some none):
  ∃w',(Instr.mapUpdate 148 (.map (some r)) (.int .i64 k) v).run prog w=.ok () w'/\w'.heap[r]? =some (.map (es.push ⟨.int .i64 k,v,cl⟩) (cl+1))/\∀B,B<=r->Below B w w':=by
 have hlt:=lt_of_block hr
 refine⟨{ w with heap:=w.heap.setIfInBounds r (.map (es.push ⟨.int .i64 k,v,cl⟩) (cl+1)) },?_,?_,?_⟩
 ·simp[Instr.mapUpdate,run_underlying underlying148,MapKept.run_getObj_map hr,MapKept.run_checkKey underlying3 (k:=.int .i64 k) (by simp[MapKept.IsKey]),Instr.findKey,run_underlying underlying3,hf,MapKept.run_setObj_map _ hr,Result.andThen]
 ·simp[hlt]
 ·intro B hB
  refine⟨rfl,rfl,rfl,by simp,fun j hj=>?_⟩
  show(w.heap.setIfInBounds r _)[j]? =_
  rw[Array.getElem?_setIfInBounds_ne (by omega)]
theorem Is(w:World):(Instr.makeMap 148 none).run prog w=.ok (.map (some w.heap.size)) (w.alloc (.map #[] 0)):=by
 simp[Instr.makeMap,Result.andThen]
theorem cC(w:World):Calls prog 116 #[] w fun e w'=>e=.returned (.map (some w.heap.size))/\w'.heap[w.heap.size]? =some (.map Bg 8)/\Below w.heap.size w w':=by
 have hmk:=Is w
 have b0:Below w.heap.size w (w.alloc (.map #[] 0)):=(J _ w).alloc (U _) _
 obtain⟨w1,e1,h1,b1⟩:=gE (aj w (.map #[] 0)) 100 (.agg #[.string ⟨#[100,105,103,105,116]⟩,.bool false]) rfl
 obtain⟨w2,e2,h2,b2⟩:=gE h1 68 (.agg #[.string ⟨#[100,105,103,105,116]⟩,.bool true]) (by kernel_rfl)
 obtain⟨w3,e3,h3,b3⟩:=gE h2 119 (.agg #[.string ⟨#[119,111,114,100]⟩,.bool false]) (by kernel_rfl)
 obtain⟨w4,e4,h4,b4⟩:=gE h3 87 (.agg #[.string ⟨#[119,111,114,100]⟩,.bool true]) (by kernel_rfl)
 obtain⟨w5,e5,h5,b5⟩:=gE h4 115 (.agg #[.string ⟨#[115,112,97,99,101]⟩,.bool false]) (by kernel_rfl)
 obtain⟨w6,e6,h6,b6⟩:=gE h5 83 (.agg #[.string ⟨#[115,112,97,99,101]⟩,.bool true]) (by kernel_rfl)
 obtain⟨w7,e7,h7,b7⟩:=gE h6 104 (.agg #[.string ⟨#[120,100,105,103,105,116]⟩,.bool false]) (by kernel_rfl)
 obtain⟨w8,e8,h8,b8⟩:=gE h7 72 (.agg #[.string ⟨#[120,100,105,103,105,116]⟩,.bool true]) (by kernel_rfl)
 have HB:Hid (Below w.heap.size w w8):=((((((((b0).trans (b1 _ (U _))).trans (b2 _ (U _))).trans (b3 _ (U _))).trans (b4 _ (U _))).trans (b5 _ (U _))).trans (b6 _ (U _))).trans (b7 _ (U _))).trans (b8 _ (U _))
 have H8:Hid (w8.heap[w.heap.size]? =some (.map Bg 8)):=h8
 clear b0 h1 h2 h3 h4 h5 h6 h7 h8 b1 b2 b3 b4 b5 b6 b7 b8
 go_enter func116,ntmps116
 go_wp2
 go_ret
 exact⟨rfl,H8.o,HB.o⟩
theorem dB{w:World}{r:Nat}(hr:w.heap[r]? =some (.map Bg 8))(p:Int):(Instr.lookup 148 (.map (some r)) (.int .i64 p) true).run prog w=.ok (.tuple #[gz (match jc p with|some c=>c.1|none=>⟨#[]⟩) (match jc p with|some c=>c.2|none=>false),.bool (jc p).isSome]) w:=by
 have hf:Instr.findNow (.int .i64) (.int .i64 p) Bg.toList 0=some ((jc p).map fun c=>(if p=100 then 0 else if p=68 then 1 else if p=119 then 2 else if p=87 then 3 else if p=115 then 4 else if p=83 then 5 else if p=104 then 6 else 7,gz c.1 c.2)):=by
  by_cases h100:p=100
  ·subst h100;rfl
  by_cases h68:p=68
  ·subst h68;rfl
  by_cases h119:p=119
  ·subst h119;rfl
  by_cases h87:p=87
  ·subst h87;rfl
  by_cases h115:p=115
  ·subst h115;rfl
  by_cases h83:p=83
  ·subst h83;rfl
  by_cases h104:p=104
  ·subst h104;rfl
  by_cases h72:p=72
  ·subst h72;rfl
  have hn:jc p=none:=by simp[jc,h100,h68,h119,h87,h115,h83,h104,h72]
  rw[hn]
  have g100:(p==100)=false:=by simpa using h100
  have g68:(p==68)=false:=by simpa using h68
  have g119:(p==119)=false:=by simpa using h119
  have g87:(p==87)=false:=by simpa using h87
  have g115:(p==115)=false:=by simpa using h115
  have g83:(p==83)=false:=by simpa using h83
  have g104:(p==104)=false:=by simpa using h104
  have g72:(p==72)=false:=by simpa using h72
  simp[Bg,Instr.findNow,Instr.sameNow,g100,g68,g119,g87,g115,g83,g104,g72]
 have hz:∀W,(zeroValue 146).run prog W=.ok (gz ⟨#[]⟩ false) W:=fun W=>by kernel_rfl
 simp only[Instr.lookup,Sem.run_bind,run_underlying underlying148,MapKept.run_getObj_map hr,MapKept.run_checkKey underlying3 (k:=.int .i64 p) (by simp[MapKept.IsKey]),Instr.findKey,run_underlying underlying3,hf,Result.andThen,Sem.run_pure]
 cases jc p with
 |none=>simp[hz,Result.andThen]
 |some c=>simp
theorem DQ{w:World}{r:Nat}(hr:w.heap[r]? =some (.map Bg 8))(p:Int)(g:Bool)(hp:p=119/\g=false\/p=87/\g=true):(Instr.lookup 148 (.map (some r)) (.int .i64 p) false).run prog w=.ok (gz dK g) w:=by
 rcases hp with⟨rfl,rfl⟩|⟨rfl,rfl⟩
 all_goals
  simp only[Instr.lookup,Sem.run_bind,run_underlying underlying148,MapKept.run_getObj_map hr,MapKept.run_checkKey underlying3 (k:=.int .i64 _) (by simp[MapKept.IsKey]),Instr.findKey,run_underlying underlying3,Result.andThen,Sem.run_pure]
  rfl
end Go.Proofs.YtklbbbldalmnbaaGreatDoor.TK
