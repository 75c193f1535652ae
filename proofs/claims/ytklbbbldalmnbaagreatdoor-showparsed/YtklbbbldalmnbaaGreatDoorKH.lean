import Derived.Test.YtklbbbldalmnbaaGreatDoorKG
import Derived.Maps.Keyed
set_option maxHeartbeats 16000000
set_option linter.unusedVariables false
open Go.Proofs.Tryz
namespace Go.Proofs.YtklbbbldalmnbaaGreatDoor.TK
open Go.RowKit
theorem jW(n:ByteArray)(g:Bool)(w:World):Calls prog 117 #[.agg #[.string n,.bool g]] w fun e w'=>e=.returned (bh (ej (n,g)))/\Below w.heap.size w w':=by
 go_enter func117,ntmps117
 go_wp21
 go_wp21
 exact aO (N:=w.heap.size+1) (t:=ej (n,g)) rfl rfl (bB _ _ (by simp)) ⟨rfl,(an _ _).alloc (by simp) _⟩
theorem vW(p:Int)(w:World):Calls prog 122 #[.int .i64 p] w fun e w'=>(∃q,iP p=.ok q/\e=.returned (.int .i64 q)/\w=w')\/(iP p=.error 1/\e=bU 1/\w=w'):=by
 by_cases hp110:p=110
 ·subst hp110
  go_enter func122,ntmps122
  go_wp2
  go_ret
  exact .inl ⟨10,by simp[iP],rfl,rfl⟩
 by_cases hp116:p=116
 ·subst hp116
  go_enter func122,ntmps122
  go_wp2
  go_ret
  exact .inl ⟨9,by simp[iP],rfl,rfl⟩
 by_cases hp114:p=114
 ·subst hp114
  go_enter func122,ntmps122
  go_wp2
  go_ret
  exact .inl ⟨13,by simp[iP],rfl,rfl⟩
 by_cases hp102:p=102
 ·subst hp102
  go_enter func122,ntmps122
  go_wp2
  go_ret
  exact .inl ⟨12,by simp[iP],rfl,rfl⟩
 by_cases hp118:p=118
 ·subst hp118
  go_enter func122,ntmps122
  go_wp2
  go_ret
  exact .inl ⟨11,by simp[iP],rfl,rfl⟩
 by_cases hp97:p=97
 ·subst hp97
  go_enter func122,ntmps122
  go_wp2
  go_ret
  exact .inl ⟨7,by simp[iP],rfl,rfl⟩
 by_cases hp101:p=101
 ·subst hp101
  go_enter func122,ntmps122
  go_wp2
  go_ret
  exact .inl ⟨27,by simp[iP],rfl,rfl⟩
 have hq110:(p==110)=false:=by simpa using hp110
 have hq116:(p==116)=false:=by simpa using hp116
 have hq114:(p==114)=false:=by simpa using hp114
 have hq102:(p==102)=false:=by simpa using hp102
 have hq118:(p==118)=false:=by simpa using hp118
 have hq97:(p==97)=false:=by simpa using hp97
 have hq101:(p==101)=false:=by simpa using hp101
 have HL:=I (nD p w)
 cases hl:si p with
 |true=>
  rw[hl]at HL
  have hE:Hid (iP p=.error 1):=by show _=_;unfold iP;simp[hp110,hp116,hp114,hp102,hp118,hp97,hp101,hl]
  clear hl
  go_enter func122,ntmps122
  go_wp2_with fail
  refine HL.o.mono ?_
  rintro e w' ⟨rfl,rfl⟩
  go_wp2
  exact⟨rfl,.inr ⟨hE.o,rfl,rfl⟩⟩
 |false=>
  rw[hl]at HL
  by_cases hp48:p=48
  ·subst hp48
   have hE:Hid (iP 48=.error 1):=by show _=_;unfold iP;simp
   clear hl
   go_enter func122,ntmps122
   go_wp2_with fail
   refine HL.o.mono ?_
   rintro e w' ⟨rfl,rfl⟩
   go_wp2
   exact⟨rfl,.inr ⟨hE.o,rfl,rfl⟩⟩
  ·have hq48:(p==48)=false:=by simpa using hp48
   have hE:Hid (iP p=.ok p):=by show _=_;unfold iP;simp[hp110,hp116,hp114,hp102,hp118,hp97,hp101,hl,hp48]
   clear hl
   go_enter func122,ntmps122
   go_wp2_with fail
   refine HL.o.mono ?_
   rintro e w' ⟨rfl,rfl⟩
   go_wp2
   go_ret
   exact .inl ⟨p,hE.o,rfl,rfl⟩
theorem zA{b:Nat}{x:Addr}{c:Nat}{l:List Int}{i:Nat}{d:Int}{least ar k:Nat}{n:Int}(w:World)(h:RB w b x c l i d)(hm:ar<=6)(hl:least<=6)(he:cZ 16 ar l i=(n,k))(hk:least<=k):
  Calls prog 119 #[.pointer (some ⟨b,0,none⟩),.int .i64 least,.int .i64 ar] w fun e w'=>e=.returned (.int .i64 n)/\RB w' b x c l (i+k) d/\Mv b w w':=by
 have:=Hl least ar w h hm hl (by rw[he];exact hk)
 rw[he]at this
 exact this
theorem uC{b:Nat}{x:Addr}{c:Nat}{l:List Int}{i:Nat}{d:Int}{least ar k:Nat}{n:Int}(w:World)(h:RB w b x c l i d)(hm:ar<=6)(hl:least<=6)(he:cZ 16 ar l i=(n,k))(hk:k<least):
  Calls prog 119 #[.pointer (some ⟨b,0,none⟩),.int .i64 least,.int .i64 ar] w fun e w'=>e=bU 1/\Mv b w w':=
 Jy least ar w h hm hl (by rw[he];exact hk)
theorem uB{b:Nat}{x:Addr}{c:Nat}{l:List Int}{i:Nat}{d:Int}(w:World)(h:RB w b x c l i d):Calls prog 118 #[.pointer (some ⟨b,0,none⟩)] w fun e w'=>nh b x c l d w (fL l i) e w':=by
 have hlt:=h.lt
 have hxw:=h.xw
 have hat:=h.at'
 have hw0:=h.alloc (aw {})
 cases hs:bw l i [123]with
 |false=>
  have HS:=I (jk _ hw0 123 hs)
  obtain⟨n,k,he,hr0⟩:=eU 16 2 l i hat (Or.inr rfl)
  by_cases hk:k<1
  ·have HX:=I (fun w1 (h1:RB w1 b x c l i d)=>uC (least:=1) w1 h1 (by omega) (by omega) he hk)
   have hE:Hid (fL l i=.error 1):=by show _=_;unfold fL;rw[if_pos hs];simp only[he];rw[if_pos hk]
   clear hs h hw0 he hr0 hk
   go_enter func118,ntmps118
   go_wp2_with fail
   simp only[aw,World.size_alloc]at HS
   refine HS.o.mono ?_
   rintro e w1 ⟨rfl,hr1,hm1⟩
   go_wp2_with fail
   refine(HX.o w1 hr1).mono ?_
   rintro e w2 ⟨rfl,hm2⟩
   have hm:=hm1.trans hm2
   have HMM:=I hm
   clear hm HS HX hr1 hm1 hm2
   simp only[bU]
   go_wp2
   exact⟨rfl,.inr ⟨1,hE.o,rfl,((Mv.refl b w).alloc _).trans HMM.o⟩⟩
  ·have HX:=I (fun w1 (h1:RB w1 b x c l i d)=>zA (least:=1) w1 h1 (by omega) (by omega) he (by omega))
   have hE:Hid (fL l i=.ok (aR n,i+k)):=by show _=_;unfold fL;rw[if_pos hs];simp only[he];rw[if_neg hk]
   clear hs h hw0 he hr0 hk
   go_enter func118,ntmps118
   go_wp2_with fail
   simp only[aw,World.size_alloc]at HS
   refine HS.o.mono ?_
   rintro e w1 ⟨rfl,hr1,hm1⟩
   go_wp2_with fail
   refine(HX.o w1 hr1).mono ?_
   rintro e w2 ⟨rfl,hr2,hm2⟩
   go_wp2_with fail
   refine(eo n w2).mono ?_
   rintro e w3 ⟨rfl,hb3⟩
   have hr:=hr2.ax hb3
   have hm:=(hm1.trans hm2).trans (Mv.U hb3)
   have hN:w3.heap[w.heap.size]? =some (aw {}):=hm.aH (aj _ _) (by omega)
   obtain⟨m0,m1,m2,m3,m4,m5,m6,m7⟩:=ae hN
   have fr0:=aC hN
   have hq0:w.heap.size<w3.heap.size:=lt_of_block hN
   have hq1:¬w.heap.size=w3.heap.size:=by omega
   have hq2:¬w3.heap.size=w.heap.size:=by omega
   have HRR:=I hr
   have HMM:=I hm
   clear hr hm HS HX hr1 hm1 hr2 hm2 hb3
   simp only[bh,aR]
   go_wp21
   go_wp21
   go_wp21
   exact aO (N:=w.heap.size) rfl rfl (aM hN (aR n)) (.inl ⟨(aR n),(i+k),hE.o,rfl,HRR.o.tok (by omega) (by omega) _ _ _ _ _ _ _ _,Mv.tok (((Mv.refl b w).alloc _).trans HMM.o) (ai _) _ _ _ _ _ _ _ _⟩)
 |true=>
  have HS:=I (gR _ hw0 123 hs)
  have hin:=fU hs (by simp)
  obtain⟨n,k,he,hr0⟩:=eU 16 6 l (i+1) (by simpa using hin) (Or.inr rfl)
  have hnb:=gm hr0 (by omega)
  by_cases hk:k<1
  ·have HX:=I (fun w1 (h1:RB w1 b x c l (i+1) d)=>uC (least:=1) w1 h1 (by omega) (by omega) he hk)
   have hE:Hid (fL l i=.error 1):=by show _=_;unfold fL;rw[if_neg (by rw[hs];simp)];simp only[he];rw[if_pos hk]
   clear hs h hw0 he hr0 hk hin
   go_enter func118,ntmps118
   go_wp2_with fail
   simp only[aw,World.size_alloc]at HS
   refine HS.o.mono ?_
   rintro e w1 ⟨rfl,hr1,hm1⟩
   go_wp2_with fail
   refine(HX.o w1 hr1).mono ?_
   rintro e w2 ⟨rfl,hm2⟩
   have hm:=hm1.trans hm2
   have HMM:=I hm
   clear hm HS HX hr1 hm1 hm2
   simp only[bU]
   go_wp2
   exact⟨rfl,.inr ⟨1,hE.o,rfl,((Mv.refl b w).alloc _).trans HMM.o⟩⟩
  ·have HX:=I (fun w1 (h1:RB w1 b x c l (i+1) d)=>zA (least:=1) w1 h1 (by omega) (by omega) he (by omega))
   have hE0:Hid (fL l i=(if bw l (i+1+k) [125]=false then .error 1 else if n>1114111 then .error 3 else .ok (aR n,i+1+k+1))):=by show _=_;unfold fL;rw[if_neg (by rw[hs];simp)];simp only[he];rw[if_neg hk]
   clear hs h hw0 he hr0 hk hin
   cases hs2:bw l (i+1+k) [125]with
   |false=>
    have HM2:=I (fun w1 (h1:RB w1 b x c l (i+1+k) d)=>dk 125 w1 h1 hs2)
    have hE:Hid (fL l i=.error 1):=by show _=_;rw[hE0.o,if_pos hs2]
    clear hs2 hE0
    go_enter func118,ntmps118
    go_wp2_with fail
    simp only[aw,World.size_alloc]at HS
    refine HS.o.mono ?_
    rintro e w1 ⟨rfl,hr1,hm1⟩
    go_wp2_with fail
    refine(HX.o w1 hr1).mono ?_
    rintro e w2 ⟨rfl,hr2,hm2⟩
    go_wp2_with fail
    refine(HM2.o w2 hr2).mono ?_
    rintro e w3 ⟨rfl,hm3⟩
    have hm:=(hm1.trans hm2).trans hm3
    have HMM:=I hm
    clear hm HS HX HM2 hr1 hm1 hr2 hm2 hm3
    simp only[bU]
    go_wp2
    exact⟨rfl,.inr ⟨1,hE.o,rfl,((Mv.refl b w).alloc _).trans HMM.o⟩⟩
   |true=>
    have HM2:=I (fun w1 (h1:RB w1 b x c l (i+1+k) d)=>cq 125 w1 h1 hs2)
    by_cases hbig:n>1114111
    ·have hE:Hid (fL l i=.error 3):=by show _=_;rw[hE0.o,if_neg (by rw[hs2];simp),if_pos hbig]
     have hbig':1114111<n:=hbig
     clear hs2 hE0 hbig
     go_enter func118,ntmps118
     go_wp2_with fail
     simp only[aw,World.size_alloc]at HS
     refine HS.o.mono ?_
     rintro e w1 ⟨rfl,hr1,hm1⟩
     go_wp2_with fail
     refine(HX.o w1 hr1).mono ?_
     rintro e w2 ⟨rfl,hr2,hm2⟩
     go_wp2_with fail
     refine(HM2.o w2 hr2).mono ?_
     rintro e w3 ⟨rfl,hr3,hm3⟩
     have hm:=(hm1.trans hm2).trans hm3
     have HMM:=I hm
     clear hm HS HX HM2 hr1 hm1 hr2 hm2 hr3 hm3
     simp only
     go_wp2
     exact⟨rfl,.inr ⟨3,hE.o,rfl,((Mv.refl b w).alloc _).trans HMM.o⟩⟩
    ·have hE:Hid (fL l i=.ok (aR n,i+1+k+1)):=by show _=_;rw[hE0.o,if_neg (by rw[hs2];simp),if_neg hbig]
     have hbig':¬1114111<n:=hbig
     clear hs2 hE0 hbig
     go_enter func118,ntmps118
     go_wp2_with fail
     simp only[aw,World.size_alloc]at HS
     refine HS.o.mono ?_
     rintro e w1 ⟨rfl,hr1,hm1⟩
     go_wp2_with fail
     refine(HX.o w1 hr1).mono ?_
     rintro e w2 ⟨rfl,hr2,hm2⟩
     go_wp2_with fail
     refine(HM2.o w2 hr2).mono ?_
     rintro e w3 ⟨rfl,hr3,hm3⟩
     go_wp2_with fail
     refine(eo n w3).mono ?_
     rintro e w4 ⟨rfl,hb4⟩
     have hr:=hr3.ax hb4
     have hm:=((hm1.trans hm2).trans hm3).trans (Mv.U hb4)
     have hN:w4.heap[w.heap.size]? =some (aw {}):=hm.aH (aj _ _) (by omega)
     obtain⟨m0,m1,m2,m3,m4,m5,m6,m7⟩:=ae hN
     have fr0:=aC hN
     have hq0:w.heap.size<w4.heap.size:=lt_of_block hN
     have hq1:¬w.heap.size=w4.heap.size:=by omega
     have hq2:¬w4.heap.size=w.heap.size:=by omega
     have HRR:=I hr
     have HMM:=I hm
     clear hr hm HS HX HM2 hr1 hm1 hr2 hm2 hr3 hm3 hb4
     simp only[bh,aR]
     go_wp21
     go_wp21
     go_wp21
     exact aO (N:=w.heap.size) rfl rfl (aM hN (aR n)) (.inl ⟨(aR n),(i+1+k+1),hE.o,rfl,HRR.o.tok (by omega) (by omega) _ _ _ _ _ _ _ _,Mv.tok (((Mv.refl b w).alloc _).trans HMM.o) (ai _) _ _ _ _ _ _ _ _⟩)
theorem pq{b:Nat}{x:Addr}{c:Nat}{l:List Int}{i:Nat}{d:Int}(n:Int)(w:World)(h:RB w b x c l i d)(n0:0<=n)(n1:n<=9):Calls prog 121 #[.pointer (some ⟨b,0,none⟩),.int .i64 n] w fun e w'=>nh b x c l d w (.ok (jP l i n)) e w':=by
 have hlt:=h.lt
 have hxw:=h.xw
 have hat:=h.at'
 have hw0:=h.alloc (aw {})
 obtain⟨m,k,he,hr0⟩:=eU 10 1 l i hat (Or.inl rfl)
 have HD:=I (lL _ hw0 (Or.inl rfl) (by omega) he)
 have hk1:=hr0.k1
 have hm0:=hr0.n0
 have hmb:=gm hr0 (by omega)
 by_cases hk:k=1
 ·subst hk
  have hE:Hid ((.ok (jP l i n):RT)=.ok (aU (n*10+m),i+1)):=by show _=_;unfold jP;simp[he]
  clear h hw0 he hr0
  go_enter func121,ntmps121
  go_wp2_with fail
  simp only[aw]at HD
  refine HD.o.mono ?_
  rintro e w1 ⟨rfl,hr1,hm1⟩
  go_wp2_with fail
  refine(eS (n*10+m) w1).mono ?_
  rintro e w2 ⟨rfl,hb2⟩
  have hr:=hr1.ax hb2
  have hm:=hm1.trans (Mv.U hb2)
  have hN:w2.heap[w.heap.size]? =some (aw {}):=hm.aH (aj _ _) (by omega)
  obtain⟨m0,m1,m2,m3,m4,m5,m6,m7⟩:=ae hN
  have fr0:=aC hN
  have hq0:w.heap.size<w2.heap.size:=lt_of_block hN
  have hq1:¬w.heap.size=w2.heap.size:=by omega
  have hq2:¬w2.heap.size=w.heap.size:=by omega
  have HRR:=I hr
  have HMM:=I hm
  clear hr hm HD hr1 hm1 hb2
  simp only[bh,aU]
  go_wp21
  go_wp21
  go_wp21
  exact aO (N:=w.heap.size) rfl rfl (aM hN (aU (n*10+m))) (.inl ⟨(aU (n*10+m)),(i+1),hE.o,rfl,HRR.o.tok (by omega) (by omega) _ _ _ _ _ _ _ _,Mv.tok (((Mv.refl b w).alloc _).trans HMM.o) (ai _) _ _ _ _ _ _ _ _⟩)
 ·obtain rfl:k=0:=by omega
  have hE:Hid ((.ok (jP l i n):RT)=.ok (aU n,i)):=by show _=_;unfold jP;simp only[he];rw[if_neg (by omega)]
  clear h hw0 he hr0 hk
  go_enter func121,ntmps121
  go_wp2_with fail
  simp only[aw]at HD
  refine HD.o.mono ?_
  rintro e w1 ⟨rfl,hr1,hm1⟩
  go_wp2_with fail
  refine(eS n w1).mono ?_
  rintro e w2 ⟨rfl,hb2⟩
  have hr:=hr1.ax hb2
  have hm:=hm1.trans (Mv.U hb2)
  have hN:w2.heap[w.heap.size]? =some (aw {}):=hm.aH (aj _ _) (by omega)
  obtain⟨m0,m1,m2,m3,m4,m5,m6,m7⟩:=ae hN
  have fr0:=aC hN
  have hq0:w.heap.size<w2.heap.size:=lt_of_block hN
  have hq1:¬w.heap.size=w2.heap.size:=by omega
  have hq2:¬w2.heap.size=w.heap.size:=by omega
  have HRR:=I hr
  have HMM:=I hm
  clear hr hm HD hr1 hm1 hb2
  simp only[bh,aU]
  go_wp21
  go_wp21
  go_wp21
  exact aO (N:=w.heap.size) rfl rfl (aM hN (aU n)) (.inl ⟨(aU n),i,hE.o,rfl,HRR.o.tok (by omega) (by omega) _ _ _ _ _ _ _ _,Mv.tok (((Mv.refl b w).alloc _).trans HMM.o) (ai _) _ _ _ _ _ _ _ _⟩)
theorem D8{l:List Int}(h:l≠[]):(bI l).toList.isEmpty=false:=by
 rw[ByteArray.toList_eq]
 unfold bI
 cases l with
 |nil=>exact absurd rfl h
 |cons a t=>rfl
theorem GB{l:List Int}{i:Nat}(hs:bw l i [60]=true){back:Bool}(hb:bw l (i+1) [45]=back){j:Nat}(hj:j=if back then i+2 else i+1){n:Int}{k:Nat}(he:cZ 10 3 l j=(n,k)):
  ff l i=(if 0<k then(if bw l (j+k) [62]=false then .error 1 else if n=0 then .error 3 else .ok (aU (if back then -n else n),j+k+1))else if back then .error 1 else if bQ l j=[]then .error 1 else if bw l (j+(bQ l j).length) [62]=false then .error 1 else .ok ({ kind:=10,text:=bI (bQ l j) },j+(bQ l j).length+1)):=by
 unfold ff
 rw[if_neg (by rw[hs];simp)]
 simp only[hb, <-hj,he]
theorem vy{b:Nat}{x:Addr}{c:Nat}{l:List Int}{i:Nat}{d:Int}(w:World)(h:RB w b x c l i d):Calls prog 120 #[.pointer (some ⟨b,0,none⟩)] w fun e w'=>nh b x c l d w (ff l i) e w':=by
 have hlt:=h.lt
 have hxw:=h.xw
 have hat:=h.at'
 have hw0:=h.alloc (aw {})
 cases hs:bw l i [60]with
 |false=>
  have HS:=I (dk 60 _ hw0 hs)
  have hE:Hid (ff l i=.error 1):=by show _=_;unfold ff;rw[if_pos hs]
  clear hs h hw0
  go_enter func120,ntmps120
  go_wp2_with fail
  simp only[aw]at HS
  refine HS.o.mono ?_
  rintro e w1 ⟨rfl,hm⟩
  have HMM:=I hm
  clear hm HS
  simp only[bU]
  go_wp2
  exact⟨rfl,.inr ⟨1,hE.o,rfl,((Mv.refl b w).alloc _).trans HMM.o⟩⟩
 |true=>
  have HS:=I (cq 60 _ hw0 hs)
  have hin:=fU hs (by simp)
  obtain⟨back,hbk⟩:∃back,bw l (i+1) [45]=back:=⟨_,rfl⟩
  obtain⟨j,hj⟩:=J ((if back then i+2 else i+1))
  have hjl:j<=l.length:=by
   rw[hj]
   split
   ·rename_i hb;rw[hb]at hbk;have:=fU hbk (by simp);simp at this;omega
   ·simpa using hin
  obtain⟨n,k,he,hr0⟩:=eU 10 3 l j hjl (Or.inl rfl)
  have HA:=I (GB hs hbk hj he)
  have HS2:Hid (∀w1,RB w1 b x c l (i+1) d->Calls prog 107 #[.pointer (some ⟨b,0,none⟩),.slice (some ⟨w1.heap.size,0,none⟩) 1 1] (w1.alloc (.cells #[.int .i64 45] 3)) fun e w'=>e=.returned (.bool back)/\RB w' b x c l j d/\Mv b w1 w'):=fun w1 h1=>by
   have:=mw w1 h1 45
   rw[hbk]at this
   rw[hj]
   exact this
  have HD:=I (fun w1 (h1:RB w1 b x c l j d)=>lL w1 h1 (Or.inl rfl) (show 3<=6 by omega) he)
  have hnb:=gm hr0 (by omega)
  have hn0:=hr0.n0
  have hk1:=hr0.k1
  clear hs h hw0 he hr0 hbk hj hin
  by_cases hkp:0<k
  ·have hki:(0:Int)<(k:Int):=by omega
   cases back with
   |true=>
    go_enter func120,ntmps120
    go_wp2_with fail
    simp only[aw]at HS
    refine HS.o.mono ?_
    rintro e w1 ⟨rfl,hr1,hm1⟩
    go_wp2_with fail
    refine(eS 0 w1).mono ?_
    rintro e w2 ⟨rfl,hb2⟩
    have hr2:=hr1.ax hb2
    have hm2:=hm1.trans (Mv.U hb2)
    have hz2:w.heap.size+1<=w2.heap.size:=by have:=hm2.size;simpa using this
    have hlt2:=hr2.lt
    have hxw2:=hr2.xw
    simp only[bh,aU]
    have HS3:=I (HS2.o _ (hr2.alloc (aw (aU 0))))
    simp only[aw,aU,World.size_alloc]at HS3
    clear hr1 hm1 hb2 HS HS2
    go_wp2_with fail
    refine HS3.o.mono ?_
    rintro e w3 ⟨rfl,hr3,hm3⟩
    go_wp2_with fail
    refine(HD.o w3 hr3).mono ?_
    rintro e w4 ⟨rfl,hr4,hm4⟩
    have hm24:=((Mv.refl b w2).alloc (aw (aU 0))).trans (hm3.trans hm4)
    have hT:w4.heap[w2.heap.size]? =some (aw (aU 0)):=(hm3.trans hm4).aH (aj _ _) (by omega)
    have hmA:=hm2.trans hm24
    have frT:=aC hT
    obtain⟨n0,n1,n2,n3,n4,n5,n6,n7⟩:=ae hT
    simp only[aU]at n0 n1 n2 n3 n4 n5 n6 n7
    clear HS3 HD hr2 hm2 hr3 hm3 hm4 hm24
    have hrX:=hr4.other (p:=⟨w2.heap.size,1,none⟩) (by simp;omega) (by simp;omega) (.int .i64 (-n))
    have hmX:=hmA.fW (p:=⟨w2.heap.size,1,none⟩) (by simp;omega) (.int .i64 (-n))
    have HTX:Hid ((w4.setCell ⟨w2.heap.size,1,none⟩ (.int .i64 (-n))).heap[w2.heap.size]? =some (aw (aU (-n)))):=by
     show _=_
     rw[bn hT]
     simp[aw,aU]
    clear hr4 hmA
    cases hs3:bw l (j+k) [62]with
    |false=>
     have hE:Hid (ff l i=.error 1):=by show _=_;rw[HA.o,if_pos hkp,if_pos hs3]
     have HM5:=I (dk 62 _ hrX hs3)
     clear hs3 hrX
     simp only[]
     go_wp2_with fail
     refine HM5.o.mono ?_
     rintro e w9 ⟨rfl,hm9⟩
     have hm:=hmX.trans hm9
     have HMM:=I hm
     clear hm hmX hm9 HM5
     simp only[bU]
     go_wp2
     exact⟨rfl,.inr ⟨1,hE.o,rfl,((Mv.refl b w).alloc _).trans HMM.o⟩⟩
    |true=>
     have HM5:=I (cq 62 _ hrX hs3)
     by_cases hz:n=0
     ·subst hz
      have hE:Hid (ff l i=.error 3):=by show _=_;rw[HA.o,if_pos hkp,if_neg (by rw[hs3];simp),if_pos rfl]
      clear hs3 hrX
      simp only[]
      go_wp2_with fail
      refine HM5.o.mono ?_
      rintro e w9 ⟨rfl,hr,hm9⟩
      have hm:=hmX.trans hm9
      have hT9:=hm9.aH HTX.o (by omega)
      obtain⟨p0,p1,p2,p3,p4,p5,p6,p7⟩:=ae hT9
      try simp only[aU,Int.neg_zero]at p0 p1 p2 p3 p4 p5 p6 p7
      have HMM:=I hm
      clear hm hr hmX hm9 HM5
      simp only
      go_wp2
      exact⟨rfl,.inr ⟨3,hE.o,rfl,((Mv.refl b w).alloc _).trans HMM.o⟩⟩
     ·have hE:Hid (ff l i=.ok ((aU (-n)),j+k+1)):=by show _=_;rw[HA.o,if_pos hkp,if_neg (by rw[hs3];simp),if_neg hz];rfl
      clear hs3 hrX
      have hzb:((-n)==0)=false:=by simp;omega
      have hzc:¬(-n)=0:=by omega
      simp only[]
      go_wp2_with fail
      refine HM5.o.mono ?_
      rintro e w9 ⟨rfl,hr,hm9⟩
      have hm:=hmX.trans hm9
      have hT9:=hm9.aH HTX.o (by omega)
      obtain⟨p0,p1,p2,p3,p4,p5,p6,p7⟩:=ae hT9
      try simp only[aU]at p0 p1 p2 p3 p4 p5 p6 p7
      have hN:w9.heap[w.heap.size]? =some (aw {}):=hm.aH (aj _ _) (by omega)
      obtain⟨m0,m1,m2,m3,m4,m5,m6,m7⟩:=ae hN
      have fr0:=aC hN
      have hq0:w.heap.size<w9.heap.size:=lt_of_block hN
      have hq1:¬w.heap.size=w9.heap.size:=by omega
      have hq2:¬w9.heap.size=w.heap.size:=by omega
      have HRR:=I hr
      have HMM:=I hm
      clear hr hm hmX hm9 HM5
      go_wp21
      go_wp21
      go_wp21
      exact aO (N:=w.heap.size) rfl rfl (aM hN (aU (-n))) (.inl ⟨(aU (-n)),(j+k+1),hE.o,rfl,HRR.o.tok (by omega) (by omega) _ _ _ _ _ _ _ _,Mv.tok (((Mv.refl b w).alloc _).trans HMM.o) (ai _) _ _ _ _ _ _ _ _⟩)
   |false=>
    go_enter func120,ntmps120
    go_wp2_with fail
    simp only[aw]at HS
    refine HS.o.mono ?_
    rintro e w1 ⟨rfl,hr1,hm1⟩
    go_wp2_with fail
    refine(eS 0 w1).mono ?_
    rintro e w2 ⟨rfl,hb2⟩
    have hr2:=hr1.ax hb2
    have hm2:=hm1.trans (Mv.U hb2)
    have hz2:w.heap.size+1<=w2.heap.size:=by have:=hm2.size;simpa using this
    have hlt2:=hr2.lt
    have hxw2:=hr2.xw
    simp only[bh,aU]
    have HS3:=I (HS2.o _ (hr2.alloc (aw (aU 0))))
    simp only[aw,aU,World.size_alloc]at HS3
    clear hr1 hm1 hb2 HS HS2
    go_wp2_with fail
    refine HS3.o.mono ?_
    rintro e w3 ⟨rfl,hr3,hm3⟩
    go_wp2_with fail
    refine(HD.o w3 hr3).mono ?_
    rintro e w4 ⟨rfl,hr4,hm4⟩
    have hm24:=((Mv.refl b w2).alloc (aw (aU 0))).trans (hm3.trans hm4)
    have hT:w4.heap[w2.heap.size]? =some (aw (aU 0)):=(hm3.trans hm4).aH (aj _ _) (by omega)
    have hmA:=hm2.trans hm24
    have frT:=aC hT
    obtain⟨n0,n1,n2,n3,n4,n5,n6,n7⟩:=ae hT
    simp only[aU]at n0 n1 n2 n3 n4 n5 n6 n7
    clear HS3 HD hr2 hm2 hr3 hm3 hm4 hm24
    have hrX:=hr4.other (p:=⟨w2.heap.size,1,none⟩) (by simp;omega) (by simp;omega) (.int .i64 (n))
    have hmX:=hmA.fW (p:=⟨w2.heap.size,1,none⟩) (by simp;omega) (.int .i64 (n))
    have HTX:Hid ((w4.setCell ⟨w2.heap.size,1,none⟩ (.int .i64 (n))).heap[w2.heap.size]? =some (aw (aU (n)))):=by
     show _=_
     rw[bn hT]
     simp[aw,aU]
    clear hr4 hmA
    cases hs3:bw l (j+k) [62]with
    |false=>
     have hE:Hid (ff l i=.error 1):=by show _=_;rw[HA.o,if_pos hkp,if_pos hs3]
     have HM5:=I (dk 62 _ hrX hs3)
     clear hs3 hrX
     simp only[]
     go_wp2_with fail
     refine HM5.o.mono ?_
     rintro e w9 ⟨rfl,hm9⟩
     have hm:=hmX.trans hm9
     have HMM:=I hm
     clear hm hmX hm9 HM5
     simp only[bU]
     go_wp2
     exact⟨rfl,.inr ⟨1,hE.o,rfl,((Mv.refl b w).alloc _).trans HMM.o⟩⟩
    |true=>
     have HM5:=I (cq 62 _ hrX hs3)
     by_cases hz:n=0
     ·subst hz
      have hE:Hid (ff l i=.error 3):=by show _=_;rw[HA.o,if_pos hkp,if_neg (by rw[hs3];simp),if_pos rfl]
      clear hs3 hrX
      simp only[]
      go_wp2_with fail
      refine HM5.o.mono ?_
      rintro e w9 ⟨rfl,hr,hm9⟩
      have hm:=hmX.trans hm9
      have hT9:=hm9.aH HTX.o (by omega)
      obtain⟨p0,p1,p2,p3,p4,p5,p6,p7⟩:=ae hT9
      try simp only[aU]at p0 p1 p2 p3 p4 p5 p6 p7
      have HMM:=I hm
      clear hm hr hmX hm9 HM5
      simp only
      go_wp2
      exact⟨rfl,.inr ⟨3,hE.o,rfl,((Mv.refl b w).alloc _).trans HMM.o⟩⟩
     ·have hE:Hid (ff l i=.ok ((aU (n)),j+k+1)):=by show _=_;rw[HA.o,if_pos hkp,if_neg (by rw[hs3];simp),if_neg hz];rfl
      clear hs3 hrX
      have hzb:((n)==0)=false:=by simp;omega
      have hzc:¬(n)=0:=by omega
      simp only[]
      go_wp2_with fail
      refine HM5.o.mono ?_
      rintro e w9 ⟨rfl,hr,hm9⟩
      have hm:=hmX.trans hm9
      have hT9:=hm9.aH HTX.o (by omega)
      obtain⟨p0,p1,p2,p3,p4,p5,p6,p7⟩:=ae hT9
      try simp only[aU]at p0 p1 p2 p3 p4 p5 p6 p7
      have hN:w9.heap[w.heap.size]? =some (aw {}):=hm.aH (aj _ _) (by omega)
      obtain⟨m0,m1,m2,m3,m4,m5,m6,m7⟩:=ae hN
      have fr0:=aC hN
      have hq0:w.heap.size<w9.heap.size:=lt_of_block hN
      have hq1:¬w.heap.size=w9.heap.size:=by omega
      have hq2:¬w9.heap.size=w.heap.size:=by omega
      have HRR:=I hr
      have HMM:=I hm
      clear hr hm hmX hm9 HM5
      go_wp21
      go_wp21
      go_wp21
      exact aO (N:=w.heap.size) rfl rfl (aM hN (aU (n))) (.inl ⟨(aU (n)),(j+k+1),hE.o,rfl,HRR.o.tok (by omega) (by omega) _ _ _ _ _ _ _ _,Mv.tok (((Mv.refl b w).alloc _).trans HMM.o) (ai _) _ _ _ _ _ _ _ _⟩)
  ·obtain rfl:k=0:=by omega
   cases back with
   |true=>
    have hE:Hid (ff l i=.error 1):=by show _=_;rw[HA.o,if_neg hkp,if_pos rfl]
    go_enter func120,ntmps120
    go_wp2_with fail
    simp only[aw]at HS
    refine HS.o.mono ?_
    rintro e w1 ⟨rfl,hr1,hm1⟩
    go_wp2_with fail
    refine(eS 0 w1).mono ?_
    rintro e w2 ⟨rfl,hb2⟩
    have hr2:=hr1.ax hb2
    have hm2:=hm1.trans (Mv.U hb2)
    have hz2:w.heap.size+1<=w2.heap.size:=by have:=hm2.size;simpa using this
    have hlt2:=hr2.lt
    have hxw2:=hr2.xw
    simp only[bh,aU]
    have HS3:=I (HS2.o _ (hr2.alloc (aw (aU 0))))
    simp only[aw,aU,World.size_alloc]at HS3
    clear hr1 hm1 hb2 HS HS2
    go_wp2_with fail
    refine HS3.o.mono ?_
    rintro e w3 ⟨rfl,hr3,hm3⟩
    go_wp2_with fail
    refine(HD.o w3 hr3).mono ?_
    rintro e w4 ⟨rfl,hr4,hm4⟩
    have hm24:=((Mv.refl b w2).alloc (aw (aU 0))).trans (hm3.trans hm4)
    have hT:w4.heap[w2.heap.size]? =some (aw (aU 0)):=(hm3.trans hm4).aH (aj _ _) (by omega)
    have hmA:=hm2.trans hm24
    have frT:=aC hT
    obtain⟨n0,n1,n2,n3,n4,n5,n6,n7⟩:=ae hT
    simp only[aU]at n0 n1 n2 n3 n4 n5 n6 n7
    clear HS3 HD hr2 hm2 hr3 hm3 hm4 hm24
    have hm:=hmA
    have HMM:=I hm
    clear hm hmA hr4
    simp only
    go_wp2
    exact⟨rfl,.inr ⟨1,hE.o,rfl,((Mv.refl b w).alloc _).trans HMM.o⟩⟩
   |false=>
    go_enter func120,ntmps120
    go_wp2_with fail
    simp only[aw]at HS
    refine HS.o.mono ?_
    rintro e w1 ⟨rfl,hr1,hm1⟩
    go_wp2_with fail
    refine(eS 0 w1).mono ?_
    rintro e w2 ⟨rfl,hb2⟩
    have hr2:=hr1.ax hb2
    have hm2:=hm1.trans (Mv.U hb2)
    have hz2:w.heap.size+1<=w2.heap.size:=by have:=hm2.size;simpa using this
    have hlt2:=hr2.lt
    have hxw2:=hr2.xw
    simp only[bh,aU]
    have HS3:=I (HS2.o _ (hr2.alloc (aw (aU 0))))
    simp only[aw,aU,World.size_alloc]at HS3
    clear hr1 hm1 hb2 HS HS2
    go_wp2_with fail
    refine HS3.o.mono ?_
    rintro e w3 ⟨rfl,hr3,hm3⟩
    go_wp2_with fail
    refine(HD.o w3 hr3).mono ?_
    rintro e w4 ⟨rfl,hr4,hm4⟩
    have hm24:=((Mv.refl b w2).alloc (aw (aU 0))).trans (hm3.trans hm4)
    have hT:w4.heap[w2.heap.size]? =some (aw (aU 0)):=(hm3.trans hm4).aH (aj _ _) (by omega)
    have hmA:=hm2.trans hm24
    have frT:=aC hT
    obtain⟨n0,n1,n2,n3,n4,n5,n6,n7⟩:=ae hT
    simp only[aU]at n0 n1 n2 n3 n4 n5 n6 n7
    clear HS3 HD hr2 hm2 hr3 hm3 hm4 hm24
    have hr4':RB w4 b x c l j d:=hr4
    clear hr4
    go_wp2_with fail
    refine(wX w4 hr4').mono ?_
    rintro e w5 (⟨hnil,rfl,hm5⟩|⟨hnn,rfl,hr5,hm5⟩)
    ·have hm:=hmA.trans hm5
     have hE:Hid (ff l i=.error 1):=by show _=_;rw[HA.o,if_neg hkp,if_neg (by simp),if_pos hnil]
     have HMM:=I hm
     clear hm hmA hm5 hr4' hnil
     simp only[bU]
     go_wp2
     exact⟨rfl,.inr ⟨1,hE.o,rfl,((Mv.refl b w).alloc _).trans HMM.o⟩⟩
    ·have hT5:=hm5.aH hT (by omega)
     have frT5:=aC hT5
     obtain⟨q0,q1,q2,q3,q4,q5,q6,q7⟩:=ae hT5
     simp only[aU]at q0 q1 q2 q3 q4 q5 q6 q7
     have hA2:Hid (ff l i=(if bw l (j+(bQ l j).length) [62]=false then .error 1 else .ok ({ kind:=10,text:=bI (bQ l j) },j+(bQ l j).length+1))):=by show _=_;rw[HA.o,if_neg hkp,if_neg (by simp),if_neg hnn]
     have hSe:=D8 hnn
     obtain⟨S,hS⟩:=J (bI (bQ l j))
     obtain⟨q,hq⟩:=J (j+(bQ l j).length)
     rw[<- hS]at hA2 hSe |-
     rw[<- hq]at hA2 hr5
     have hrX:=hr5.other (p:=⟨w2.heap.size,2,none⟩) (by simp;omega) (by simp;omega) (.string S)
     have hmX:=(hmA.trans hm5).fW (p:=⟨w2.heap.size,2,none⟩) (by simp;omega) (.string S)
     have HTX:Hid ((w5.setCell ⟨w2.heap.size,2,none⟩ (.string S)).heap[w2.heap.size]? =some (aw { kind:=10,text:=S })):=by
      show _=_
      rw[bn hT5]
      simp[aw,aU]
     clear hr4' hmA hr5 hm5 hT hT5 frT n0 n1 n2 n3 n4 n5 n6 n7 hS hq hnn HA
     cases hs3:bw l (q) [62]with
     |false=>
      have hE:Hid (ff l i=.error 1):=by show _=_;rw[hA2.o,if_pos hs3]
      have HM5:=I (dk 62 _ hrX hs3)
      clear hs3 hrX
      simp only[]
      go_wp2_with fail
      refine HM5.o.mono ?_
      rintro e w9 ⟨rfl,hm9⟩
      have hm:=hmX.trans hm9
      have HMM:=I hm
      clear hm hmX hm9 HM5
      simp only[bU]
      go_wp2
      exact⟨rfl,.inr ⟨1,hE.o,rfl,((Mv.refl b w).alloc _).trans HMM.o⟩⟩
     |true=>
      have HM5:=I (cq 62 _ hrX hs3)
      have hE:Hid (ff l i=.ok ({ kind:=10,text:=S },q+1)):=by show _=_;rw[hA2.o,if_neg (by rw[hs3];simp)]
      clear hs3 hrX
      simp only[]
      go_wp2_with fail
      refine HM5.o.mono ?_
      rintro e w9 ⟨rfl,hr,hm9⟩
      have hm:=hmX.trans hm9
      have hT9:=hm9.aH HTX.o (by omega)
      obtain⟨p0,p1,p2,p3,p4,p5,p6,p7⟩:=ae hT9
      try simp only at p0 p1 p2 p3 p4 p5 p6 p7
      have hN:w9.heap[w.heap.size]? =some (aw {}):=hm.aH (aj _ _) (by omega)
      obtain⟨m0,m1,m2,m3,m4,m5,m6,m7⟩:=ae hN
      have fr0:=aC hN
      have hq0:w.heap.size<w9.heap.size:=lt_of_block hN
      have hq1:¬w.heap.size=w9.heap.size:=by omega
      have hq2:¬w9.heap.size=w.heap.size:=by omega
      have HRR:=I hr
      have HMM:=I hm
      clear hr hm hmX hm9 HM5
      go_wp21
      go_wp21
      go_wp21
      exact aO (N:=w.heap.size) rfl rfl (aM hN { kind:=10,text:=S }) (.inl ⟨{ kind:=10,text:=S },(q+1),hE.o,rfl,HRR.o.tok (by omega) (by omega) _ _ _ _ _ _ _ _,Mv.tok (((Mv.refl b w).alloc _).trans HMM.o) (ai _) _ _ _ _ _ _ _ _⟩)
def gE(n:ByteArray)(g:Bool):Value:=.agg #[.string n,.bool g]
def B8:Array MapEntry:=#[⟨.int .i64 100,gE ep false,0⟩,⟨.int .i64 68,gE ep true,1⟩,⟨.int .i64 119,gE dS false,2⟩,⟨.int .i64 87,gE dS true,3⟩,⟨.int .i64 115,gE er false,4⟩,⟨.int .i64 83,gE er true,5⟩,⟨.int .i64 104,gE dB false,6⟩,⟨.int .i64 72,gE dB true,7⟩]
theorem gU{w:World}{r:Nat}{es:Array MapEntry}{cl:Nat}(hr:w.heap[r]? =some (.map es cl))(k:Int)(v:Value)(hf:Instr.findNow (.int .i64) (.int .i64 k) es.toList 0=some none):
  ∃w',(Instr.mapUpdate 148 (.map (some r)) (.int .i64 k) v).run prog w=.ok () w'/\w'.heap[r]? =some (.map (es.push ⟨.int .i64 k,v,cl⟩) (cl+1))/\∀B,B<=r->Below B w w':=by
 have hlt:=lt_of_block hr
 refine⟨{ w with heap:=w.heap.setIfInBounds r (.map (es.push ⟨.int .i64 k,v,cl⟩) (cl+1)) },?_,?_,?_⟩
 ·simp[Instr.mapUpdate,run_underlying underlying148,MapKept.run_getObj_map hr,MapKept.run_checkKey underlying3 (k:=.int .i64 k) (by simp[MapKept.IsKey]),Instr.findKey,run_underlying underlying3,hf,MapKept.run_setObj_map _ hr,Result.andThen]
 ·simp[hlt]
 ·intro B hB
  refine⟨rfl,rfl,rfl,by simp,fun j hj=>?_⟩
  show(w.heap.setIfInBounds r _)[j]? =_
  rw[Array.getElem?_setIfInBounds_ne (by omega)]
theorem JI(w:World):(Instr.makeMap 148 none).run prog w=.ok (.map (some w.heap.size)) (w.alloc (.map #[] 0)):=by
 simp[Instr.makeMap,Result.andThen]
theorem cM(w:World):Calls prog 116 #[] w fun e w'=>e=.returned (.map (some w.heap.size))/\w'.heap[w.heap.size]? =some (.map B8 8)/\Below w.heap.size w w':=by
 have hmk:=JI w
 have b0:Below w.heap.size w (w.alloc (.map #[] 0)):=an w _
 obtain⟨w1,e1,h1,b1⟩:=gU (aj w (.map #[] 0)) 100 (.agg #[.string ⟨#[100,105,103,105,116]⟩,.bool false]) rfl
 obtain⟨w2,e2,h2,b2⟩:=gU h1 68 (.agg #[.string ⟨#[100,105,103,105,116]⟩,.bool true]) (by kernel_rfl)
 obtain⟨w3,e3,h3,b3⟩:=gU h2 119 (.agg #[.string ⟨#[119,111,114,100]⟩,.bool false]) (by kernel_rfl)
 obtain⟨w4,e4,h4,b4⟩:=gU h3 87 (.agg #[.string ⟨#[119,111,114,100]⟩,.bool true]) (by kernel_rfl)
 obtain⟨w5,e5,h5,b5⟩:=gU h4 115 (.agg #[.string ⟨#[115,112,97,99,101]⟩,.bool false]) (by kernel_rfl)
 obtain⟨w6,e6,h6,b6⟩:=gU h5 83 (.agg #[.string ⟨#[115,112,97,99,101]⟩,.bool true]) (by kernel_rfl)
 obtain⟨w7,e7,h7,b7⟩:=gU h6 104 (.agg #[.string ⟨#[120,100,105,103,105,116]⟩,.bool false]) (by kernel_rfl)
 obtain⟨w8,e8,h8,b8⟩:=gU h7 72 (.agg #[.string ⟨#[120,100,105,103,105,116]⟩,.bool true]) (by kernel_rfl)
 have HB:Hid (Below w.heap.size w w8):=((((((((b0).trans (b1 _ (ai _))).trans (b2 _ (ai _))).trans (b3 _ (ai _))).trans (b4 _ (ai _))).trans (b5 _ (ai _))).trans (b6 _ (ai _))).trans (b7 _ (ai _))).trans (b8 _ (ai _))
 have H8:Hid (w8.heap[w.heap.size]? =some (.map B8 8)):=h8
 clear b0 h1 h2 h3 h4 h5 h6 h7 h8 b1 b2 b3 b4 b5 b6 b7 b8
 go_enter func116,ntmps116
 go_wp2
 go_ret
 exact⟨rfl,H8.o,HB.o⟩
theorem dR{w:World}{r:Nat}(hr:w.heap[r]? =some (.map B8 8))(p:Int):(Instr.lookup 148 (.map (some r)) (.int .i64 p) true).run prog w=.ok (.tuple #[gE (match jq p with|some c=>c.1|none=>⟨#[]⟩) (match jq p with|some c=>c.2|none=>false),.bool (jq p).isSome]) w:=by
 have hf:Instr.findNow (.int .i64) (.int .i64 p) B8.toList 0=some ((jq p).map fun c=>(if p=100 then 0 else if p=68 then 1 else if p=119 then 2 else if p=87 then 3 else if p=115 then 4 else if p=83 then 5 else if p=104 then 6 else 7,gE c.1 c.2)):=by
  by_cases h100:p=100
  ·subst h100;rfl
  by_cases h68:p=68
  ·subst h68;rfl
  by_cases h119:p=119
  ·subst h119;rfl
  by_cases h87:p=87
  ·subst h87;rfl
  by_cases h115:p=115
  ·subst h115;rfl
  by_cases h83:p=83
  ·subst h83;rfl
  by_cases h104:p=104
  ·subst h104;rfl
  by_cases h72:p=72
  ·subst h72;rfl
  have hn:jq p=none:=by simp[jq,h100,h68,h119,h87,h115,h83,h104,h72]
  rw[hn]
  have g100:(p==100)=false:=by simpa using h100
  have g68:(p==68)=false:=by simpa using h68
  have g119:(p==119)=false:=by simpa using h119
  have g87:(p==87)=false:=by simpa using h87
  have g115:(p==115)=false:=by simpa using h115
  have g83:(p==83)=false:=by simpa using h83
  have g104:(p==104)=false:=by simpa using h104
  have g72:(p==72)=false:=by simpa using h72
  simp[B8,Instr.findNow,Instr.sameNow,g100,g68,g119,g87,g115,g83,g104,g72]
 have hz:∀W,(zeroValue 146).run prog W=.ok (gE ⟨#[]⟩ false) W:=fun W=>by kernel_rfl
 simp only[Instr.lookup,Sem.run_bind,run_underlying underlying148,MapKept.run_getObj_map hr,MapKept.run_checkKey underlying3 (k:=.int .i64 p) (by simp[MapKept.IsKey]),Instr.findKey,run_underlying underlying3,hf,Result.andThen,Sem.run_pure]
 cases jq p with
 |none=>simp[hz,Result.andThen]
 |some c=>simp
theorem EV{w:World}{r:Nat}(hr:w.heap[r]? =some (.map B8 8))(p:Int)(g:Bool)(hp:p=119/\g=false\/p=87/\g=true):(Instr.lookup 148 (.map (some r)) (.int .i64 p) false).run prog w=.ok (gE dS g) w:=by
 rcases hp with⟨rfl,rfl⟩|⟨rfl,rfl⟩
 all_goals
  simp only[Instr.lookup,Sem.run_bind,run_underlying underlying148,MapKept.run_getObj_map hr,MapKept.run_checkKey underlying3 (k:=.int .i64 _) (by simp[MapKept.IsKey]),Instr.findKey,run_underlying underlying3,Result.andThen,Sem.run_pure]
  rfl
end Go.Proofs.YtklbbbldalmnbaaGreatDoor.TK
